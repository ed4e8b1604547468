/- What trimming leaves: it is right, all of it lies on paths, trimmed again it stays (no program in sight). All that is told of a trimmed machine (no program in sight). Pushed machines: right, with the same ways, and an end can be had for 0 (no program in sight). Arranged, merged or trimmed a machine costs the same (no program in sight). What is answered of pushed and pulled machines has right sizes; made machines pushed (no program in sight). -/
import Derived.Test.YteaafghmkkejfaaPlainZa
import Derived.Test.YteaafghmkkejfaaPlainPh
import Derived.Test.YteaafghmkkejfaaJ15j
namespace Go.Proofs.Yteaafghmkkejfaa.Pl
section
variable {z : Int} {l : List St} {aa bs : List Bool}
theorem trim_back (hf : faultM (z, l) = 0) (hA : Least (AheadC z l) l.length aa) (hB : Least (BackC l) l.length bs) (T : Nat → Prop) (hT : BackC ((keptL aa bs l.length).map (trimS l (keptL aa bs l.length))) T) :
    ∀ i, i < (keptL aa bs l.length).length → T i := by
  have hp := keptL_sorted aa bs l.length
  have hk : ∀ q, q < l.length → el aa q = true → el bs q = true → ∃ i : Nat, i < (keptL aa bs l.length).length ∧ el (keptL aa bs l.length) i = (q : Int) ∧ placeI (keptL aa bs l.length) (q : Int) = (i : Int) := fun q hq h1 h2 => placeI_mem hp (keptL_iff.2 ⟨hq, h1, h2⟩)
  have key : ∀ q, q < l.length → el bs q = true → (el bs q = true ∧ (el aa q = true → T (placeI (keptL aa bs l.length) (q : Int)).toNat)) := by
    refine hB.2.2 (fun q => el bs q = true ∧ (el aa q = true → T (placeI (keptL aa bs l.length) (q : Int)).toNat)) ⟨?_, ?_⟩
    · intro q hq hz
      have h1 := hB.2.1.1 q hq hz
      refine ⟨h1, fun h2 => ?_⟩
      obtain ⟨i, hi, hei, e⟩ := hk q hq h2 h1
      rw [e]
      refine hT.1 _ (by simpa using hi) ?_
      rw [Int.toNat_natCast, trim_el hi, hei]
      simpa using hz
    · intro q hq d hd h9
      obtain ⟨t, ht, htn⟩ := to_right hf hq hd
      rw [ht] at h9
      simp only [Int.toNat_natCast] at h9
      have h1 : el bs q = true := hB.2.1.2 q hq d hd (by rw [ht]; simpa using h9.1)
      refine ⟨h1, fun h2 => ?_⟩
      have h3 : el aa t = true := by have := hA.2.1.2 q hq h2 d hd; rw [ht] at this; simpa using this
      obtain ⟨i, hi, hei, e⟩ := hk q hq h2 h1
      obtain ⟨j, hj, hej, e2⟩ := hk t htn h3 h9.1
      have h4 := h9.2 h3
      rw [e2] at h4
      rw [e]
      refine hT.2 i (by simpa using hi) (turnA (keptL aa bs l.length) d) (by
        rw [trim_el hi, hei]
        simp only [Int.toNat_natCast]
        exact trimA_in hd (by rw [ht, e2]; omega)) ?_
      simp only [turnA]
      rw [ht, e2]
      exact h4
  intro i hi
  obtain ⟨q, hq, hqn, h1, h2⟩ := keptL_mem (el_mem hi)
  have h3 := (key q hqn h2).2 h1
  rw [← hq, placeI_el hp hi] at h3
  simpa using h3
theorem arcN_cons (s : St) (l : List St) : arcN (s :: l) = s.2.length + arcN l := rfl
theorem trim_arcs (ks : List Int) (n : Nat) (hn : n ≤ l.length) : arcN ((keptL aa bs n).map (trimS l ks)) ≤ arcN (l.take n) := by
  induction n with
  | zero => simp [keptL, arcN]
  | succ n ih =>
    rw [keptL_succ, List.map_append, arcN_append, arcN_take (by omega)]
    have := ih (by omega)
    split
    · have h9 := trimA_le ks (el l n).2
      simp only [List.map_cons, List.map_nil, arcN_cons, arcN, trimS, Int.toNat_natCast]
      omega
    · simp only [List.map_nil, arcN]
      omega
theorem trim_fault (hf : faultM (z, l) = 0) : faultM (trimM z l (keptL aa bs l.length)) = 0 := by
  have hp := keptL_sorted aa bs l.length
  have hle := keptL_le aa bs l.length
  have hsz := right_size hf
  have har := trim_arcs (l := l) (aa := aa) (bs := bs) (keptL aa bs l.length) l.length (Nat.le_refl _)
  rw [List.take_length] at har
  have hpl : ∀ x, -1 ≤ placeI (keptL aa bs l.length) x ∧ placeI (keptL aa bs l.length) x ≤ ((keptL aa bs l.length).length : Int) - 1 := fun x => by
    by_cases e : x ∈ keptL aa bs l.length
    · obtain ⟨i, hi, _, h⟩ := placeI_mem hp e
      rw [h]; omega
    · rw [placeI_not e]; omega
  refine faultM_ok ?_ ?_
  · simp only [sizeB, trimM, Bool.and_eq_true, List.length_map]
    exact ⟨decide_eq_true (by omega), decide_eq_true (by omega)⟩
  · simp only [rangeB, trimM, Bool.and_eq_true, List.length_map, List.all_eq_true]
    refine ⟨by simp only [inB, Bool.and_eq_true, decide_eq_true_eq]; exact hpl z, fun s hs => ?_⟩
    obtain ⟨x, hx, rfl⟩ := List.mem_map.1 hs
    obtain ⟨q, rfl, hq, _, _⟩ := keptL_mem hx
    have h1 := right_st hf hq
    simp only [stB, trimS, Bool.and_eq_true, List.all_eq_true, Int.toNat_natCast]
    refine ⟨h1.1, fun c hc => ?_⟩
    obtain ⟨d, hd, rfl, h0⟩ := trimA_mem hc
    have h2 := List.all_eq_true.1 h1.2 d hd
    have h3 := hpl d.2.2.2
    simp only [arcB, inB, Bool.and_eq_true, decide_eq_true_eq] at h2
    simp only [arcB, turnA, inB, Bool.and_eq_true]
    exact ⟨⟨⟨⟨decide_eq_true (by omega), decide_eq_true (by omega)⟩, ⟨decide_eq_true (by omega), decide_eq_true (by omega)⟩⟩, ⟨decide_eq_true (by omega), decide_eq_true (by omega)⟩⟩, ⟨decide_eq_true h0, decide_eq_true h3.2⟩⟩
theorem trim_ok (hm : okM (z, l)) : okM (trimM z l (keptL aa bs l.length)) := by
  have hle := keptL_le aa bs l.length
  have h1 := hm.1
  have h2 := hm.2
  refine ⟨by simp only [trimM, List.length_map] at h1 ⊢; omega, fun j hj => ?_⟩
  simp only [trimM, List.length_map] at hj ⊢
  rw [trim_el hj]
  obtain ⟨q, e, hq, _, _⟩ := keptL_mem (el_mem hj)
  rw [e]
  have := trimA_le (keptL aa bs l.length) (el l q).2
  have := h2 q hq
  simp only [Int.toNat_natCast] at this ⊢
  omega
theorem all_least {C : (Nat → Prop) → Prop} {n : Nat} (hC : C (fun q => q < n)) (h : ∀ T, C T → ∀ i, i < n → T i) : Least C n (List.replicate n true) :=
  ⟨by simp, by
    have : (fun q => el (List.replicate n true) q = true) = fun q => q < n := by funext q; rw [el_true]
    rw [this]; exact hC, fun T hT q hq _ => h T hT q hq⟩
theorem trim_to (hf : faultM (z, l) = 0) {i : Nat} (hi : i < (keptL aa bs l.length).length) {c : Ar} (hc : c ∈ (el ((keptL aa bs l.length).map (trimS l (keptL aa bs l.length))) i).2) : ∃ t : Nat, c.2.2.2 = (t : Int) ∧ t < (keptL aa bs l.length).length := by
  have h := to_right (trim_fault (aa := aa) (bs := bs) hf) (q := i) (by simpa [trimM] using hi) (d := c) (by simpa [trimM] using hc)
  simpa using h
theorem trim_all_ahead (hf : faultM (z, l) = 0) (hA : Least (AheadC z l) l.length aa) (hB : Least (BackC l) l.length bs) :
    Least (AheadC (placeI (keptL aa bs l.length) z) ((keptL aa bs l.length).map (trimS l (keptL aa bs l.length)))) (keptL aa bs l.length).length (List.replicate (keptL aa bs l.length).length true) := by
  refine all_least ⟨fun q hq _ => by simpa using hq, fun q hq h c hc => ?_⟩ (trim_ahead hf hA hB)
  obtain ⟨t, h1, h2⟩ := trim_to hf (by simpa using hq) hc
  rw [h1]; simpa using h2
theorem trim_all_back (hf : faultM (z, l) = 0) (hA : Least (AheadC z l) l.length aa) (hB : Least (BackC l) l.length bs) :
    Least (BackC ((keptL aa bs l.length).map (trimS l (keptL aa bs l.length)))) (keptL aa bs l.length).length (List.replicate (keptL aa bs l.length).length true) := by
  refine all_least ⟨fun q hq _ => by simpa using hq, fun q hq c hc _ => by simpa using hq⟩ (trim_back hf hA hB)
/-- All numbers below n. -/
theorem kept_all (n : Nat) : keptL (List.replicate n true) (List.replicate n true) n = (List.range n).map fun q : Nat => (q : Int) := by
  unfold keptL
  congr 1
  rw [List.filter_eq_self]
  intro q hq
  have := el_true.2 (List.mem_range.1 hq)
  simp [this]
theorem place_all {n : Nat} {x : Int} (h1 : -1 ≤ x) (h2 : x < n) : placeI ((List.range n).map fun q : Nat => (q : Int)) x = x := by
  have hp : ((List.range n).map fun q : Nat => (q : Int)).Pairwise (· < ·) := by
    have := keptL_sorted (List.replicate n true) (List.replicate n true) n
    rwa [kept_all] at this
  by_cases e : 0 ≤ x
  · have h3 : x.toNat < n := by omega
    have := placeI_el hp (i := x.toNat) (by simpa using h3)
    rw [el_range_map (fun q : Nat => (q : Int)) h3] at this
    rw [show ((x.toNat : Nat) : Int) = x by omega] at this
    exact this
  · rw [placeI_not (by intro h; obtain ⟨q, _, h9⟩ := List.mem_map.1 h; omega)]
    omega
theorem trimA_all {n : Nat} {ar : List Ar} (h : ∀ a ∈ ar, ∃ t : Nat, a.2.2.2 = (t : Int) ∧ t < n) : trimA ((List.range n).map fun q : Nat => (q : Int)) ar = ar := by
  unfold trimA
  have : ar.map (turnA ((List.range n).map fun q : Nat => (q : Int))) = ar := by
    conv => rhs; rw [← List.map_id ar]
    refine List.map_congr_left fun a ha => ?_
    obtain ⟨t, h1, h2⟩ := h a ha
    unfold turnA
    rw [h1, place_all (by omega) (by omega), ← h1]
    rfl
  rw [this, List.filter_eq_self]
  intro a ha
  obtain ⟨t, h1, h2⟩ := h a ha
  simp [h1]
/-- A right machine of which all states are left stays as it is. -/
theorem trim_all (hf : faultM (z, l) = 0) : trimM z l (keptL (List.replicate l.length true) (List.replicate l.length true) l.length) = (z, l) := by
  rw [kept_all]
  unfold trimM
  have hz := (faultM_zero hf).2
  simp only [rangeB, Bool.and_eq_true, inB, decide_eq_true_eq] at hz
  rw [place_all (by omega) (by omega)]
  congr 1
  apply el_ext (by simp)
  intro j hj
  have hj' : j < l.length := by simpa using hj
  rw [el_map (by simpa using hj'), el_range_map (fun q : Nat => (q : Int)) hj']
  unfold trimS
  rw [Int.toNat_natCast, trimA_all (fun a ha => to_right hf hj' ha)]
/-- Where the start is not left, nothing is. -/
theorem trim_start (hA : Least (AheadC z l) l.length aa) (hB : Least (BackC l) l.length bs) : placeI (keptL aa bs l.length) z < 0 ↔ (keptL aa bs l.length).length = 0 := by
  have hp := keptL_sorted aa bs l.length
  constructor
  · intro h
    have hz : z ∉ keptL aa bs l.length := fun h9 => by have := (placeI_nonneg hp).2 h9; omega
    by_cases e : (keptL aa bs l.length).length = 0
    · exact e
    · obtain ⟨q, hq, hqn, h1, h2⟩ := keptL_mem (el_mem (l := keptL aa bs l.length) (j := 0) (by omega))
      have key := hA.2.2 (fun q => el aa q = true ∧ ¬ el bs q = true) ⟨fun q hq h9 => ?_, fun q hq h9 d hd => ?_⟩ q hqn h1
      · exact absurd h2 key.2
      · have h3 := hA.2.1.1 q hq h9
        exact ⟨h3, fun h4 => hz (by rw [← h9]; exact keptL_iff.2 ⟨hq, h3, h4⟩)⟩
      · exact ⟨hA.2.1.2 q hq h9.1 d hd, fun h4 => h9.2 (hB.2.1.2 q hq d hd h4)⟩
  · intro h
    have : keptL aa bs l.length = [] := List.eq_nil_of_length_eq_zero h
    rw [this, placeI_not (by simp)]
    omega
/-- How many arcs lead from a state that is left to one that can end. -/
def cntK (l : List St) (aa bs : List Bool) : Nat → Nat
  | 0 => 0
  | n + 1 => cntK l aa bs n + (if (el aa n && el bs n) = true then (el l n).2.countP (fun a => el bs a.2.2.2.toNat) else 0)
theorem trimA_count {ks : List Int} {p : Ar → Bool} {ar : List Ar} (h : ∀ a ∈ ar, (0 ≤ placeI ks a.2.2.2 ↔ p a = true)) : (trimA ks ar).length = ar.countP p := by
  unfold trimA
  rw [← List.countP_eq_length_filter, List.countP_map]
  refine List.countP_congr fun a ha => ?_
  simp only [Function.comp, turnA]
  exact decide_eq_true_iff.trans (h a ha)
theorem trim_count (hf : faultM (z, l) = 0) (hA : Least (AheadC z l) l.length aa) (n : Nat) (hn : n ≤ l.length) : arcN ((keptL aa bs n).map (trimS l (keptL aa bs l.length))) = cntK l aa bs n := by
  induction n with
  | zero => simp [keptL, arcN, cntK]
  | succ n ih =>
    rw [keptL_succ, List.map_append, arcN_append, ih (by omega), cntK]
    split
    · rename_i hk
      simp only [Bool.and_eq_true] at hk
      simp only [List.map_cons, List.map_nil, arcN_cons, arcN, trimS, Int.toNat_natCast, Nat.add_zero]
      rw [trimA_count (p := fun a => el bs a.2.2.2.toNat)]
      intro a ha
      obtain ⟨t, h1, h2⟩ := to_right hf (q := n) (by omega) ha
      have h3 := hA.2.1.2 n (by omega) hk.1 a ha
      rw [placeI_nonneg (keptL_sorted aa bs l.length)]
      rw [h1] at h3 ⊢
      simp only [Int.toNat_natCast] at h3 ⊢
      rw [keptL_iff]
      exact ⟨fun h => h.2.2, fun h => ⟨h2, h3, h⟩⟩
    · simp [arcN]
end
end Go.Proofs.Yteaafghmkkejfaa.Pl
namespace Go.Proofs.Yteaafghmkkejfaa.Pl
theorem okRight {m : Mc} (h : faultM m = 0) : okM m := by
  have h1 := right_size (z := m.1) (l := m.2) h
  refine ⟨by omega, fun j hj => ?_⟩
  have h2 := arcN_take hj
  have h3 : arcN (m.2.take (j + 1)) ≤ arcN m.2 := by
    conv => rhs; rw [← List.take_append_drop (j + 1) m.2, arcN_append]
    omega
  omega
theorem trimmed_facts {z : Int} {l : List St} {aa bs : List Bool} (hf : faultM (z, l) = 0) (hA : Least (AheadC z l) l.length aa) (hB : Least (BackC l) l.length bs) :
    ∃ (tz : Int) (tl : List St), trimM z l (keptL aa bs l.length) = (tz, tl) ∧ faultM (tz, tl) = 0 ∧ (∀ a, Least (AheadC tz tl) tl.length a → a = List.replicate tl.length true) ∧ (∀ b, Least (BackC tl) tl.length b → b = List.replicate tl.length true) ∧
      (∀ a b, Least (AheadC tz tl) tl.length a → Least (BackC tl) tl.length b → trimM tz tl (keptL a b tl.length) = (tz, tl)) ∧ (tz < 0 ↔ tl.length = 0) ∧ tl.length ≤ l.length := by
  have hl : ((keptL aa bs l.length).map (trimS l (keptL aa bs l.length))).length = (keptL aa bs l.length).length := List.length_map _
  have h1 := trim_all_ahead hf hA hB
  have h2 := trim_all_back hf hA hB
  have h3 := trim_fault (aa := aa) (bs := bs) hf
  have h4 := trim_start hA hB
  rw [← hl] at h1 h2 h4
  refine ⟨_, _, rfl, h3, fun a ha => ha.one h1, fun b hb => hb.one h2, fun a b ha hb => ?_, h4, by rw [hl]; exact keptL_le _ _ _⟩
  rw [ha.one h1, hb.one h2]
  exact trim_all h3
end Go.Proofs.Yteaafghmkkejfaa.Pl
namespace Go.Proofs.Yteaafghmkkejfaa.Pl
set_option linter.unusedVariables false
set_option linter.unusedSimpArgs false
theorem arc_rightP {m : Mc} (h : faultM m = 0) {q : Nat} (hq : q < m.2.length) {a : Ar} (ha : a ∈ (el m.2 q).2) : 0 ≤ a.1 ∧ a.1 ≤ 1000 ∧ 0 ≤ a.2.1 ∧ a.2.1 ≤ 1000 ∧ 0 ≤ a.2.2.1 ∧ a.2.2.1 ≤ 1000000000 ∧ ∃ t : Nat, a.2.2.2 = (t : Int) ∧ t < m.2.length := by
  obtain ⟨z, l⟩ := m
  simp only at hq ha ⊢
  have h1 := (right_st h hq).2
  rw [List.all_eq_true] at h1
  have h2 := h1 a ha
  simp only [arcB, Bool.and_eq_true, inB, decide_eq_true_eq] at h2
  exact ⟨by omega, by omega, by omega, by omega, by omega, by omega, a.2.2.2.toNat, by omega, by omega⟩
/-- Where each state can end, it has an end at some cost. -/
theorem end_all {m : Mc} (hf : faultM m = 0) {bs : List Bool} (hB : Least (BackC m.2) m.2.length bs) {q : Nat} (hq : q < m.2.length) (h : el bs q = true) : ∃ c, EndC m.2 q c := by
  refine hB.2.2 (fun q => ∃ c, EndC m.2 q c) ⟨fun q hq hn => ⟨_, 0, q, 0, .nil, hq, hn, rfl⟩, fun q hq a ha => ?_⟩ q hq h
  rintro ⟨c, n, p, d, hr, hp, hn, rfl⟩
  obtain ⟨_, _, _, _, _, _, t, e1, e2⟩ := arc_rightP hf hq ha
  rw [e1, Int.toNat_natCast] at hr
  exact ⟨_, n + 1, p, a.2.2.1.toNat + d, Run.first ⟨a, ha, e1, rfl⟩ hr, hp, hn, rfl⟩
theorem pot_of {m : Mc} {vs : List Int} (hf : faultM m = 0) (hall : ∀ q, q < m.2.length → ∃ c, EndC m.2 q c) (hD : DstAns m (EndC m.2) vs 0) : Pot m.2 vs ∧ ∀ q, q < m.2.length → LeastP (EndC m.2 q) (el vs q).toNat := by
  have hL : vs.length = m.2.length ∧ ∀ q, q < m.2.length → ∃ c : Nat, LeastP (EndC m.2 q) c ∧ c ≤ 1000000000 ∧ el vs q = (c : Int) := by
    rcases hD with ⟨h0, _⟩ | ⟨_, ⟨_, h1, h2⟩ | ⟨h1, _⟩⟩
    · exact absurd hf h0
    · refine ⟨h1, fun q hq => ?_⟩
      rcases h2 q hq with ⟨k, _⟩ | ⟨c, hc, ⟨k1, k2, _⟩ | ⟨_, _, k⟩⟩
      · obtain ⟨c, hc⟩ := hall q hq
        exact absurd hc (k c)
      · exact ⟨c, hc, k1, k2⟩
      · cases k
    · cases h1
  refine ⟨⟨hL.1, fun q hq => ?_, fun q hq a ha => ?_, fun q hq hn => ?_⟩, fun q hq => ?_⟩
  · obtain ⟨c, _, h2, h3⟩ := hL.2 q hq
    omega
  · obtain ⟨_, _, _, _, h5, _, t, e1, e2⟩ := arc_rightP hf hq ha
    obtain ⟨c, h1, h2, h3⟩ := hL.2 q hq
    obtain ⟨d, k1, k2, k3⟩ := hL.2 t e2
    refine ⟨t, e1, e2, h5, ?_⟩
    obtain ⟨n, p, d0, hr, hp, hn, e⟩ := k1.1
    have := h1.2 (a.2.2.1.toNat + d) ⟨n + 1, p, a.2.2.1.toNat + d0, Run.first ⟨a, ha, e1, rfl⟩ hr, hp, hn, by omega⟩
    omega
  · obtain ⟨c, h1, h2, h3⟩ := hL.2 q hq
    obtain ⟨f1, f2⟩ := fin_small hf hq hn
    have := h1.2 _ ⟨0, q, 0, .nil, hq, hn, rfl⟩
    omega
  · obtain ⟨c, h1, h2, h3⟩ := hL.2 q hq
    rw [h3, Int.toNat_natCast]
    exact h1
theorem psh_arcN (vs : List Int) (l : List St) : arcN (pshL vs l) = arcN l := by
  have key : ∀ n, n ≤ l.length → arcN ((List.range n).map (pshS vs l)) = arcN (l.take n) := by
    intro n
    induction n with
    | zero => intro _; simp [arcN]
    | succ n ih =>
      intro hn
      rw [List.range_succ, List.map_append, arcN_append, ih (by omega), arcN_take (by omega)]
      simp [arcN, pshS]
  have := key l.length (Nat.le_refl _)
  rwa [List.take_of_length_le (Nat.le_refl _)] at this
theorem psh_over {vs : List Int} {l : List St} (h : pshO vs l = false) {q : Nat} (hq : q < l.length) {a : Ar} (ha : a ∈ (el l q).2) : (pshA vs q a).2.2.1 ≤ 1000000000 := by
  unfold pshO at h
  rw [List.any_eq_false] at h
  have h1 := h q (List.mem_range.2 hq)
  rw [Bool.not_eq_true, List.any_eq_false] at h1
  have h2 := h1 a ha
  simpa using h2
theorem psh_right {m : Mc} {vs : List Int} (hf : faultM m = 0) (hP : Pot m.2 vs) (hO : pshO vs m.2 = false) : faultM (pshM vs m) = 0 := by
  obtain ⟨h1, h2⟩ := faultM_zero hf
  refine faultM_ok ?_ ?_
  · simp only [sizeB, pshM, psh_length, psh_arcN] at h1 ⊢
    exact h1
  · simp only [rangeB, pshM, psh_length, Bool.and_eq_true] at h2 ⊢
    refine ⟨h2.1, ?_⟩
    rw [List.all_eq_true]
    intro s hs
    obtain ⟨q, hq, rfl⟩ := List.mem_map.1 hs
    rw [List.mem_range] at hq
    have g1 := hP.nn q hq
    unfold stB
    rw [Bool.and_eq_true]
    constructor
    · simp only [pshS, pshF]
      by_cases hn : (el m.2 q).1 = 1000000001
      · rw [if_pos hn]; rfl
      · rw [if_neg hn]
        have := hP.fin q hq hn
        simp [finB, inB]
        omega
    · rw [List.all_eq_true]
      intro b hb
      simp only [pshS] at hb
      obtain ⟨a, ha, rfl⟩ := List.mem_map.1 hb
      have k1 := psh_over hO hq ha
      obtain ⟨t, e1, e2, e3, e4⟩ := hP.arc q hq a ha
      obtain ⟨r1, r2, r3, r4, _, _, _⟩ := arc_rightP hf hq ha
      have k2 : (pshA vs q a).2.2.1 = a.2.2.1 + el vs t - el vs q := by simp only [pshA]; rw [e1, Int.toNat_natCast]
      have k3 := (hP.nn t e2).1
      simp only [arcB, Bool.and_eq_true, inB, decide_eq_true_eq]
      refine ⟨⟨⟨⟨r1, r2⟩, r3, r4⟩, by omega, k1⟩, ?_⟩
      simp only [pshA]
      omega
/-! The same sets. -/
theorem psh_aheadC {z : Int} {vs : List Int} {l : List St} (S : Nat → Prop) : AheadC z (pshL vs l) S ↔ AheadC z l S := by
  unfold AheadC
  rw [psh_length]
  refine and_congr_right fun _ => ⟨fun h q hq hS a ha => ?_, fun h q hq hS a ha => ?_⟩
  · have := h q hq hS (pshA vs q a) (by rw [psh_el hq]; exact List.mem_map_of_mem ha)
    exact this
  · rw [psh_el hq] at ha
    obtain ⟨b, hb, rfl⟩ := List.mem_map.1 ha
    exact h q hq hS b hb
theorem psh_fin {vs : List Int} {l : List St} (hP : Pot l vs) {q : Nat} (hq : q < l.length) : (el (pshL vs l) q).1 ≠ 1000000001 ↔ (el l q).1 ≠ 1000000001 := by
  rw [psh_el hq]
  simp only [pshS, pshF]
  by_cases hn : (el l q).1 = 1000000001
  · rw [if_pos hn]; simp [hn]
  · rw [if_neg hn]
    have h1 := hP.fin q hq hn
    have h2 := (hP.nn q hq).1
    constructor
    · exact fun _ => hn
    · intro _ e; omega
theorem psh_backC {vs : List Int} {l : List St} (hP : Pot l vs) (S : Nat → Prop) : BackC (pshL vs l) S ↔ BackC l S := by
  unfold BackC
  rw [psh_length]
  constructor
  · rintro ⟨h1, h2⟩
    refine ⟨fun q hq hn => h1 q hq ((psh_fin hP hq).2 hn), fun q hq a ha hS => ?_⟩
    exact h2 q hq (pshA vs q a) (by rw [psh_el hq]; exact List.mem_map_of_mem ha) hS
  · rintro ⟨h1, h2⟩
    refine ⟨fun q hq hn => h1 q hq ((psh_fin hP hq).1 hn), fun q hq a ha hS => ?_⟩
    rw [psh_el hq] at ha
    obtain ⟨b, hb, rfl⟩ := List.mem_map.1 ha
    exact h2 q hq b hb hS
theorem psh_ahead {z : Int} {vs : List Int} {l : List St} {bs : List Bool} : Least (AheadC z (pshL vs l)) (pshL vs l).length bs ↔ Least (AheadC z l) l.length bs := by
  unfold Least
  rw [psh_length]
  simp only [psh_aheadC]
theorem psh_back {vs : List Int} {l : List St} (hP : Pot l vs) {bs : List Bool} : Least (BackC (pshL vs l)) (pshL vs l).length bs ↔ Least (BackC l) l.length bs := by
  unfold Least
  rw [psh_length]
  simp only [psh_backC hP]
/-! Ends. -/
theorem Pot.run {l : List St} {vs : List Int} (h : Pot l vs) {q n p c : Nat} (hq : q < l.length) (hw : Run (ArcE l) q n p c) :
    p < l.length ∧ ∃ c' : Nat, Run (ArcE (pshL vs l)) q n p c' ∧ (c' : Int) + el vs q = (c : Int) + el vs p := by
  induction hw with
  | nil => exact ⟨hq, 0, .nil, by omega⟩
  | step hw e ih =>
    rename_i n k c w j
    obtain ⟨hk, c', h1, h2⟩ := ih
    obtain ⟨a, ha, e0, rfl⟩ := e
    obtain ⟨t, e1, e2, e3, e4⟩ := h.arc k hk a ha
    have : j = t := by omega
    subst this
    have e5 : (pshA vs k a).2.2.1 = a.2.2.1 + el vs j - el vs k := by simp only [pshA]; rw [e0, Int.toNat_natCast]
    refine ⟨e2, _, h1.step ⟨pshA vs k a, by rw [psh_el hk]; exact List.mem_map_of_mem ha, e0, rfl⟩, ?_⟩
    rw [e5]
    omega
theorem Pot.runBack {l : List St} {vs : List Int} (h : Pot l vs) {q n p c' : Nat} (hq : q < l.length) (hw : Run (ArcE (pshL vs l)) q n p c') :
    p < l.length ∧ ∃ c : Nat, Run (ArcE l) q n p c ∧ (c' : Int) + el vs q = (c : Int) + el vs p := by
  induction hw with
  | nil => exact ⟨hq, 0, .nil, by omega⟩
  | step hw e ih =>
    rename_i n k c w j
    obtain ⟨hk, c', h1, h2⟩ := ih
    obtain ⟨a, ha, e0, rfl⟩ := e
    rw [psh_el hk] at ha
    obtain ⟨b, hb, rfl⟩ := List.mem_map.1 ha
    obtain ⟨t, e1, e2, e3, e4⟩ := h.arc k hk b hb
    have e0' : b.2.2.2 = (j : Int) := e0
    have : j = t := by omega
    subst this
    have e5 : (pshA vs k b).2.2.1 = b.2.2.1 + el vs j - el vs k := by simp only [pshA]; rw [e1, Int.toNat_natCast]
    refine ⟨e2, _, h1.step ⟨b, hb, e1, rfl⟩, ?_⟩
    rw [e5]
    omega
/-- From each state of a pushed machine an end can be had for 0. -/
theorem psh_zero {l : List St} {vs : List Int} (h : Pot l vs) {q : Nat} (hq : q < l.length) (hL : LeastP (EndC l q) (el vs q).toNat) : LeastP (EndC (pshL vs l) q) 0 := by
  refine ⟨?_, fun d _ => Nat.zero_le _⟩
  obtain ⟨n, p, d, hr, hp, hn, e⟩ := hL.1
  obtain ⟨_, c', h1, h2⟩ := h.run hq hr
  have f := h.fin p hp hn
  have g := h.nn p hp
  have gq := h.nn q hq
  refine ⟨n, p, c', h1, by rw [psh_length]; exact hp, (psh_fin h hp).2 hn, ?_⟩
  rw [psh_el hp]
  simp only [pshS, pshF, if_neg hn]
  omega
/-- Pushed with nothing, it stays. -/
theorem psh_stays {m : Mc} (hf : faultM m = 0) {vs : List Int} (h0 : ∀ q, q < m.2.length → el vs q = 0) : pshM vs m = m ∧ pshO vs m.2 = false ∧ pshT vs m = 0 := by
  have hA : ∀ q, q < m.2.length → ∀ a ∈ (el m.2 q).2, pshA vs q a = a := fun q hq a ha => by
    obtain ⟨_, _, _, _, _, _, t, e1, e2⟩ := arc_rightP hf hq ha
    simp only [pshA]
    rw [e1, Int.toNat_natCast, h0 t e2, h0 q hq, ← e1]
    simp
  have hz := (faultM_zero hf).2
  refine ⟨?_, ?_, ?_⟩
  · obtain ⟨z, l⟩ := m
    simp only [pshM]
    congr 1
    refine el_ext (psh_length vs l) fun q hq => ?_
    rw [psh_length] at hq
    rw [psh_el hq]
    simp only [pshS, pshF]
    rw [h0 q hq]
    have e1 : (if (el l q).1 = 1000000001 then (1000000001 : Int) else (el l q).1 - 0) = (el l q).1 := by split <;> omega
    rw [e1]
    have e2 : (el l q).2.map (pshA vs q) = (el l q).2 := by
      conv => rhs; rw [← List.map_id (el l q).2]
      exact List.map_congr_left fun a ha => hA q hq a ha
    rw [e2]
  · unfold pshO
    rw [List.any_eq_false]
    intro q hq
    rw [List.mem_range] at hq
    rw [Bool.not_eq_true, List.any_eq_false]
    intro a ha
    rw [hA q hq a ha]
    have := (arc_rightP hf hq ha).2.2.2.2.2.1
    simpa using this
  · unfold pshT
    split
    · rfl
    · simp only [rangeB, Bool.and_eq_true, inB, decide_eq_true_eq] at hz
      exact h0 _ (by omega)
end Go.Proofs.Yteaafghmkkejfaa.Pl
namespace Go.Proofs.Yteaafghmkkejfaa.Pl
set_option linter.unusedVariables false
set_option linter.unusedSimpArgs false
theorem mapM_el {f : List Ar → List Ar} {m : Mc} {q : Nat} (h : q < m.2.length) : el (mapM f m).2 q = ((el m.2 q).1, f (el m.2 q).2) := el_map h _
theorem mapM_len (f : List Ar → List Ar) (m : Mc) : (mapM f m).2.length = m.2.length := by simp [mapM]
theorem mapM_cheap {f : List Ar → List Ar} (hf : ∀ l a, a ∈ f l → a ∈ l) {m : Mc} (h : CheapL m.2) : CheapL (mapM f m).2 := fun s hs => by
  simp only [mapM, List.mem_map] at hs
  obtain ⟨t, ht, rfl⟩ := hs
  exact ⟨(h t ht).1, fun a ha => (h t ht).2 a (hf _ a ha)⟩
theorem mapM_mem {f : List Ar → List Ar} (hf : ∀ l a, a ∈ f l → a ∈ l) {m : Mc} (q : Nat) (a : Ar) (h : a ∈ (el (mapM f m).2 q).2) : a ∈ (el m.2 q).2 := by
  have hq := el_in h
  rw [mapM_len] at hq
  rw [mapM_el hq] at h
  exact hf _ a h
/-- The same arcs in another order. -/
theorem costs_sort (s : Bool) (m : Mc) (x y : List Int) (c : Nat) : Costs (mapM (sortS s) m) x y c ↔ Costs m x y c := by
  refine costs_same (m := mapM (sortS s) m) (m' := m) rfl (mapM_len _ _) (fun q hq => by rw [mapM_el (by rwa [mapM_len] at hq)]) (fun q a => ⟨mapM_mem (fun l a h => (sortS_perm s l).mem_iff.1 h) q a, fun h => ?_⟩) x y c
  rw [mapM_el (el_in h)]
  exact (sortS_perm s _).mem_iff.2 h
theorem costs_merge (m : Mc) (x y : List Int) : (∀ c, Costs (mapM (fun l => lightL (sortS false l)) m) x y c → Costs m x y c) ∧ ∀ c, Costs m x y c → ∃ d, d ≤ c ∧ Costs (mapM (fun l => lightL (sortS false l)) m) x y d := by
  refine costs_light (m := m) (m' := mapM (fun l => lightL (sortS false l)) m) rfl (mapM_len _ _).symm (fun q hq => by rw [mapM_el hq]) (mapM_mem merge_sub) (fun q a h => ?_) x y
  rw [mapM_el (el_in h)]
  have h1 := light_count h
  have h2 : 0 < (lightL (sortS false (el m.2 q).2)).countP (fun y => lessB y a) := by omega
  obtain ⟨b, hb, hl⟩ := List.countP_pos_iff.1 h2
  obtain ⟨e1, e2, e3, e4⟩ := less_iff.1 hl
  exact ⟨b, hb, e1, e2, e3, e4⟩
section
variable {z : Int} {l : List St} {aa bs : List Bool}
theorem kept_nat {ks : List Int} (hks : ks = keptL aa bs l.length) {i : Nat} (hi : i < ks.length) : ∃ q : Nat, el ks i = (q : Int) ∧ q < l.length ∧ el aa q = true ∧ el bs q = true := by
  have := el_mem hi
  rw [hks] at this
  obtain ⟨q, h1, h2, h3, h4⟩ := keptL_mem this
  exact ⟨q, by rw [hks]; exact h1, h2, h3, h4⟩
theorem trim_way {ks : List Int} (hks : ks = keptL aa bs l.length) {i j c : Nat} {u v : List Int} (hi : i < ks.length) (h : Way (ks.map (trimS l ks)) i u v j c) : j < ks.length ∧ Way l (el ks i).toNat u v (el ks j).toNat c := by
  have hp : ks.Pairwise (· < ·) := by rw [hks]; exact keptL_sorted _ _ _
  induction h with
  | nil => exact ⟨hi, .nil⟩
  | snoc h ha ht ih =>
    rename_i u v p c a t
    obtain ⟨hpl, hw⟩ := ih
    rw [trim_el hpl] at ha
    obtain ⟨d, hd, rfl, h0⟩ := trimA_mem ha
    have hm := (placeI_nonneg hp).1 h0
    obtain ⟨k, hk, he, hpk⟩ := placeI_mem hp hm
    have hkt : k = t := by
      have : placeI ks d.2.2.2 = (t : Int) := ht
      omega
    subst hkt
    obtain ⟨q, hq, _⟩ := kept_nat hks hk
    exact ⟨hk, hw.snoc hd (by rw [he] at hq; rw [he, hq]; rfl)⟩
theorem way_trim (hf : faultM (z, l) = 0) (hA : Least (AheadC z l) l.length aa) (hB : Least (BackC l) l.length bs) {ks : List Int} (hks : ks = keptL aa bs l.length) {q p c : Nat} {u v : List Int} (hq : q < l.length) (ha : el aa q = true) (h : Way l q u v p c) :
    (p < l.length ∧ el aa p = true) ∧ (el bs p = true → el bs q = true ∧ ∀ i j : Nat, placeI ks (q : Int) = (i : Int) → placeI ks (p : Int) = (j : Int) → Way (ks.map (trimS l ks)) i u v j c) := by
  have hp : ks.Pairwise (· < ·) := by rw [hks]; exact keptL_sorted _ _ _
  induction h with
  | nil =>
    refine ⟨⟨hq, ha⟩, fun hb => ⟨hb, fun i j hi hj => ?_⟩⟩
    have hij : i = j := by omega
    rw [hij]
    exact .nil
  | snoc h hm ht ih =>
    rename_i u v p c a t
    obtain ⟨⟨hpl, hpa⟩, ih⟩ := ih
    obtain ⟨t', e1, e2⟩ := to_right hf hpl hm
    obtain rfl : t = t' := by omega
    have hta : el aa t = true := by
      have := hA.2.1.2 p hpl hpa a hm
      rwa [ht, Int.toNat_natCast] at this
    refine ⟨⟨e2, hta⟩, fun hb => ?_⟩
    have hpb : el bs p = true := hB.2.1.2 p hpl a hm (by rw [ht, Int.toNat_natCast]; exact hb)
    obtain ⟨hqb, hw⟩ := ih hpb
    refine ⟨hqb, fun i j hi hj => ?_⟩
    have hpm : (p : Int) ∈ ks := by rw [hks]; exact keptL_iff.2 ⟨hpl, hpa, hpb⟩
    obtain ⟨k, hk, hek, hpk⟩ := placeI_mem hp hpm
    have h1 := hw i k hi hpk
    have h2 : turnA ks a ∈ (el (ks.map (trimS l ks)) k).2 := by
      rw [trim_el hk, hek, Int.toNat_natCast]
      exact trimA_in hm (by rw [ht, hj]; omega)
    have h3 := h1.snoc h2 (t := j) (by unfold turnA; simp only; rw [ht, hj])
    exact h3
theorem costs_trim (hf : faultM (z, l) = 0) (hA : Least (AheadC z l) l.length aa) (hB : Least (BackC l) l.length bs) (x y : List Int) (c : Nat) : Costs (trimM z l (keptL aa bs l.length)) x y c ↔ Costs (z, l) x y c := by
  obtain ⟨ks, hks⟩ : ∃ ks, ks = keptL aa bs l.length := ⟨_, rfl⟩
  have hp : ks.Pairwise (· < ·) := by rw [hks]; exact keptL_sorted _ _ _
  rw [← hks]
  have hlen : (trimM z l ks).2.length = ks.length := by simp [trimM]
  constructor
  · rintro ⟨h0, p, d, hw, hpl, hn, rfl⟩
    have h0' : 0 ≤ placeI ks z := h0
    obtain ⟨k, hk, hek, hpk⟩ := placeI_mem hp ((placeI_nonneg hp).1 h0')
    have hw' : Way (ks.map (trimS l ks)) k x y p d := by
      have e : (trimM z l ks).1.toNat = k := by show (placeI ks z).toNat = k; rw [hpk]; rfl
      rw [e] at hw
      exact hw
    obtain ⟨hpk', hwl⟩ := trim_way hks hk hw'
    obtain ⟨q, hq1, hq2, _⟩ := kept_nat hks hpk'
    obtain ⟨q0, hz1, hz2, _⟩ := kept_nat hks hk
    have hfin : (el (trimM z l ks).2 p).1 = (el l (el ks p).toNat).1 := by
      show (el (ks.map (trimS l ks)) p).1 = _
      rw [trim_el hpk']
    rw [hek] at hwl hz1
    refine ⟨by show 0 ≤ z; omega, (el ks p).toNat, d, hwl, by rw [hq1]; exact hq2, ?_, ?_⟩
    · rw [← hfin]; exact hn
    · rw [hfin]
  · rintro ⟨h0, p, d, hw, hpl, hn, rfl⟩
    simp only at h0 hw hpl hn ⊢
    have hz := (right_parts hf).1
    simp only at hz
    have hzl : z.toNat < l.length := by omega
    have hza : el aa z.toNat = true := hA.2.1.1 z.toNat hzl (by omega)
    obtain ⟨⟨_, hpa⟩, hb⟩ := way_trim hf hA hB hks hzl hza hw
    have hpb : el bs p = true := hB.2.1.1 p hpl hn
    obtain ⟨hzb, hway⟩ := hb hpb
    have hzt : ((z.toNat : Nat) : Int) = z := by omega
    have hzm : (z.toNat : Int) ∈ ks := by rw [hks]; exact keptL_iff.2 ⟨hzl, hza, hzb⟩
    have hpm : (p : Int) ∈ ks := by rw [hks]; exact keptL_iff.2 ⟨hpl, hpa, hpb⟩
    obtain ⟨k, hk, hek, hpk⟩ := placeI_mem hp hzm
    obtain ⟨j, hj, hej, hpj⟩ := placeI_mem hp hpm
    have h1 := hway k j hpk hpj
    rw [hzt] at hpk
    have hfin : (el (trimM z l ks).2 j).1 = (el l p).1 := by
      show (el (ks.map (trimS l ks)) j).1 = _
      rw [trim_el hj, hej, Int.toNat_natCast]
    refine ⟨by show 0 ≤ placeI ks z; omega, j, d, ?_, by rw [hlen]; exact hj, by rw [hfin]; exact hn, by rw [hfin]⟩
    show Way (ks.map (trimS l ks)) (placeI ks z).toNat x y j d
    rw [hpk]
    exact h1
theorem trim_cheap {ks : List Int} (hks : ks = keptL aa bs l.length) (h : CheapL l) : CheapL (trimM z l ks).2 := fun s hs => by
  simp only [trimM, List.mem_map] at hs
  obtain ⟨x, hx, rfl⟩ := hs
  rw [hks] at hx
  obtain ⟨q, rfl, hq, _⟩ := keptL_mem hx
  unfold trimS
  rw [Int.toNat_natCast]
  refine ⟨(h _ (el_mem hq)).1, fun a ha => ?_⟩
  obtain ⟨d, hd, rfl, _⟩ := trimA_mem ha
  exact (h _ (el_mem hq)).2 d hd
end
end Go.Proofs.Yteaafghmkkejfaa.Pl
namespace Go.Proofs.Yteaafghmkkejfaa.Pl
set_option linter.unusedVariables false
set_option linter.unusedSimpArgs false
theorem ok_zero : okM (0, []) := ⟨by simp, fun j hj => absurd hj (by simp)⟩
theorem psh_ok {m x : Mc} {t e : Int} (hok : okM m) (h : PshAns m x t e) : okM x := by
  rcases h with ⟨_, rfl, _⟩ | ⟨hf, aa, bs, vs, f, hA, hB, hD, h⟩
  · exact ok_zero
  · have hk : okM (trmM m aa bs) := trim_ok (aa := aa) (bs := bs) (z := m.1) (l := m.2) hok
    rcases h with ⟨_, rfl, _⟩ | ⟨_, _, rfl, _⟩ | ⟨_, _, rfl, _⟩
    · exact ok_zero
    · exact ok_zero
    · refine ⟨by simp only [pshM]; rw [psh_length]; exact hk.1, fun j hj => ?_⟩
      simp only [pshM] at hj ⊢
      rw [psh_length] at hj
      rw [psh_el hj]
      simp only [pshS, List.length_map]
      exact hk.2 j hj
theorem pul_ok {m x : Mc} {total e : Int} (hok : okM m) (h : PulAns m total x e) : okM x := by
  rcases h with ⟨_, rfl, _⟩ | ⟨_, _, rfl, _⟩ | ⟨_, _, aa, bs, _, _, ⟨_, rfl, _⟩ | ⟨_, rfl, _⟩⟩
  · exact ok_zero
  · exact ok_zero
  · exact ok_zero
  · have hk : okM (trmM m aa bs) := trim_ok (aa := aa) (bs := bs) (z := m.1) (l := m.2) hok
    refine ⟨by simp only [pulM, List.length_map]; exact hk.1, fun j hj => ?_⟩
    simp only [pulM, List.length_map] at hj ⊢
    rw [el_map hj]
    exact hk.2 j hj
end Go.Proofs.Yteaafghmkkejfaa.Pl
