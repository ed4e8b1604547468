/- Pushed machines: right, with the same ways, and an end can be had for 0 (no program in sight). -/
import Derived.Test.YthajkkobgfighaaGreatDoorJag
import Derived.Test.YthajkkobgfighaaGreatDoorJaf
import Derived.Test.YthajkkobgfighaaGreatDoorJae
import Derived.WalkKit
import Derived.Lib.ItoaNum
import Derived.Lib.ItoaLen
namespace Go.Proofs.YthajkkobgfighaaGreatDoor.Pl
set_option linter.unusedVariables false
set_option linter.unusedSimpArgs false
theorem arc_rightP {m : Mc} (h : faultM m = 0) {q : Nat} (hq : q < m.2.length) {a : Ar} (ha : a ∈ (el m.2 q).2) : 0 ≤ a.1 ∧ a.1 ≤ 1000 ∧ 0 ≤ a.2.1 ∧ a.2.1 ≤ 1000 ∧ 0 ≤ a.2.2.1 ∧ a.2.2.1 ≤ 1000000000 ∧ ∃ t : Nat, a.2.2.2 = (t : Int) ∧ t < m.2.length := by
 obtain ⟨z, l⟩ := m
 simp only at hq ha ⊢
 have h1 := (right_st h hq).2
 rw [List.all_eq_true] at h1
 have h2 := h1 a ha
 simp only [arcB, Bool.and_eq_true, inB, decide_eq_true_eq] at h2
 exact ⟨by omega, by omega, by omega, by omega, by omega, by omega, a.2.2.2.toNat, by omega, by omega⟩
theorem end_all {m : Mc} (hf : faultM m = 0) {bs : List Bool} (hB : Least (BackC m.2) m.2.length bs) {q : Nat} (hq : q < m.2.length) (h : el bs q = true) : ∃ c, EndC m.2 q c := by
 refine hB.2.2 (fun q => ∃ c, EndC m.2 q c) ⟨fun q hq hn => ⟨_, 0, q, 0, .nil, hq, hn, rfl⟩, fun q hq a ha => ?_⟩ q hq h
 rintro ⟨c, n, p, d, hr, hp, hn, rfl⟩
 obtain ⟨_, _, _, _, _, _, t, e1, e2⟩ := arc_rightP hf hq ha
 rw [e1, Int.toNat_natCast] at hr
 exact ⟨_, n + 1, p, a.2.2.1.toNat + d, Run.first ⟨a, ha, e1, rfl⟩ hr, hp, hn, rfl⟩
theorem pot_of {m : Mc} {vs : List Int} (hf : faultM m = 0) (hall : ∀ q, q < m.2.length → ∃ c, EndC m.2 q c) (hD : DstAns m (EndC m.2) vs 0) : Pot m.2 vs ∧ ∀ q, q < m.2.length → LeastP (EndC m.2 q) (el vs q).toNat := by
 have hL : vs.length = m.2.length ∧ ∀ q, q < m.2.length → ∃ c : Nat, LeastP (EndC m.2 q) c ∧ c ≤ 1000000000 ∧ el vs q = (c : Int) := by
  rcases hD with ⟨h0, _⟩ | ⟨_, ⟨_, h1, h2⟩ | ⟨h1, _⟩⟩
  ·exact absurd hf h0
  ·refine ⟨h1, fun q hq => ?_⟩
   rcases h2 q hq with ⟨k, _⟩ | ⟨c, hc, ⟨k1, k2, _⟩ | ⟨_, _, k⟩⟩
   ·obtain ⟨c, hc⟩ := hall q hq
    exact absurd hc (k c)
   ·exact ⟨c, hc, k1, k2⟩
   ·cases k
  ·cases h1
 refine ⟨⟨hL.1, fun q hq => ?_, fun q hq a ha => ?_, fun q hq hn => ?_⟩, fun q hq => ?_⟩
 ·obtain ⟨c, _, h2, h3⟩ := hL.2 q hq
  omega
 ·obtain ⟨_, _, _, _, h5, _, t, e1, e2⟩ := arc_rightP hf hq ha
  obtain ⟨c, h1, h2, h3⟩ := hL.2 q hq
  obtain ⟨d, k1, k2, k3⟩ := hL.2 t e2
  refine ⟨t, e1, e2, h5, ?_⟩
  obtain ⟨n, p, d0, hr, hp, hn, e⟩ := k1.1
  have := h1.2 (a.2.2.1.toNat + d) ⟨n + 1, p, a.2.2.1.toNat + d0, Run.first ⟨a, ha, e1, rfl⟩ hr, hp, hn, by omega⟩
  omega
 ·obtain ⟨c, h1, h2, h3⟩ := hL.2 q hq
  obtain ⟨f1, f2⟩ := fin_small hf hq hn
  have := h1.2 _ ⟨0, q, 0, .nil, hq, hn, rfl⟩
  omega
 ·obtain ⟨c, h1, h2, h3⟩ := hL.2 q hq
  rw [h3, Int.toNat_natCast]
  exact h1
theorem psh_arcN (vs : List Int) (l : List St) : arcN (pshL vs l) = arcN l := by
  have key : ∀ n, n ≤ l.length → arcN ((List.range n).map (pshS vs l)) = arcN (l.take n) := by
    intro n
    induction n with
    | zero => intro _; simp [arcN]
    | succ n ih =>
      intro hn
      rw [List.range_succ, List.map_append, arcN_append, ih (by omega), arcN_take (by omega)]
      simp [arcN, pshS]
  have := key l.length (Nat.le_refl _)
  rwa [List.take_of_length_le (Nat.le_refl _)] at this
theorem psh_over {vs : List Int} {l : List St} (h : pshO vs l = false) {q : Nat} (hq : q < l.length) {a : Ar} (ha : a ∈ (el l q).2) : (pshA vs q a).2.2.1 ≤ 1000000000 := by
 unfold pshO at h
 rw [List.any_eq_false] at h
 have h1 := h q (List.mem_range.2 hq)
 rw [Bool.not_eq_true, List.any_eq_false] at h1
 have h2 := h1 a ha
 simpa using h2
theorem psh_right {m : Mc} {vs : List Int} (hf : faultM m = 0) (hP : Pot m.2 vs) (hO : pshO vs m.2 = false) : faultM (pshM vs m) = 0 := by
 obtain ⟨h1, h2⟩ := faultM_zero hf
 refine faultM_ok ?_ ?_
 ·simp only [sizeB, pshM, psh_length, psh_arcN] at h1 ⊢
  exact h1
 ·simp only [rangeB, pshM, psh_length, Bool.and_eq_true] at h2 ⊢
  refine ⟨h2.1, ?_⟩
  rw [List.all_eq_true]
  intro s hs
  obtain ⟨q, hq, rfl⟩ := List.mem_map.1 hs
  rw [List.mem_range] at hq
  have g1 := hP.nn q hq
  unfold stB
  rw [Bool.and_eq_true]
  constructor
  ·simp only [pshS, pshF]
   by_cases hn : (el m.2 q).1 = 1000000001
   ·rw [if_pos hn]; rfl
   ·rw [if_neg hn]
    have := hP.fin q hq hn
    simp [finB, inB]
    omega
  ·rw [List.all_eq_true]
   intro b hb
   simp only [pshS] at hb
   obtain ⟨a, ha, rfl⟩ := List.mem_map.1 hb
   have k1 := psh_over hO hq ha
   obtain ⟨t, e1, e2, e3, e4⟩ := hP.arc q hq a ha
   obtain ⟨r1, r2, r3, r4, _, _, _⟩ := arc_rightP hf hq ha
   have k2 : (pshA vs q a).2.2.1 = a.2.2.1 + el vs t - el vs q := by simp only [pshA]; rw [e1, Int.toNat_natCast]
   have k3 := (hP.nn t e2).1
   simp only [arcB, Bool.and_eq_true, inB, decide_eq_true_eq]
   refine ⟨⟨⟨⟨r1, r2⟩, r3, r4⟩, by omega, k1⟩, ?_⟩
   simp only [pshA]
   omega
theorem Pot.run {l : List St} {vs : List Int} (h : Pot l vs) {q n p c : Nat} (hq : q < l.length) (hw : Run (ArcE l) q n p c) :
    p < l.length ∧ ∃ c' : Nat, Run (ArcE (pshL vs l)) q n p c' ∧ (c' : Int) + el vs q = (c : Int) + el vs p := by
  induction hw with
  | nil => exact ⟨hq, 0, .nil, by omega⟩
  | step hw e ih =>
    rename_i n k c w j
    obtain ⟨hk, c', h1, h2⟩ := ih
    obtain ⟨a, ha, e0, rfl⟩ := e
    obtain ⟨t, e1, e2, e3, e4⟩ := h.arc k hk a ha
    have : j = t := by omega
    subst this
    have e5 : (pshA vs k a).2.2.1 = a.2.2.1 + el vs j - el vs k := by simp only [pshA]; rw [e0, Int.toNat_natCast]
    refine ⟨e2, _, h1.step ⟨pshA vs k a, by rw [psh_el hk]; exact List.mem_map_of_mem ha, e0, rfl⟩, ?_⟩
    rw [e5]
    omega
theorem sum_erase {α : Type} [DecidableEq α] (g : α → Nat) {x : α} : ∀ {U : List α}, x ∈ U → (U.map g).sum = g x + ((U.erase x).map g).sum
  | [], h => by cases h
  | y :: U, h => by
    by_cases e : y = x
    · subst e
      rw [List.erase_cons_head]
      simp
    · have hx : x ∈ U := by
        rcases List.mem_cons.1 h with g | g
        · exact absurd g.symm e
        · exact g
      rw [List.erase_cons_tail (by simpa using e)]
      simp only [List.map_cons, List.sum_cons]
      rw [sum_erase g hx]
      omega
theorem nodup_sum {α : Type} [DecidableEq α] (g : α → Nat) : ∀ {L U : List α}, L.Nodup → (∀ t ∈ L, t ∈ U) → (L.map g).sum ≤ (U.map g).sum
  | [], U, _, _ => Nat.zero_le _
  | x :: L, U, h, hs => by
    rw [List.nodup_cons] at h
    have hx := hs x List.mem_cons_self
    have h1 := nodup_sum g (L := L) (U := U.erase x) h.2 (fun t ht => by
      have : t ≠ x := fun e => h.1 (e ▸ ht)
      exact (List.mem_erase_of_ne this).2 (hs t (List.mem_cons_of_mem _ ht)))
    have h2 := sum_erase g hx
    simp only [List.map_cons, List.sum_cons]
    omega
section
variable {α : Type} [DecidableEq α] [Inhabited α] {fin : α → Int × Int} {hops : α → List (Hg α)}
theorem numS_fitsW {U : List α} (hU : U.length ≤ 60) (hW : (U.map fun t => (hops t).length).sum ≤ 400) (H : ∀ t ∈ U, (fin t).2 = 0 ∧ ∀ h ∈ hops t, h.2.2.1 ≤ 1000000000 ∧ h.2.2.2 ∈ U) : ∀ (k q : Nat) (L : List α) (S : List St) (n : Nat), L.Nodup → (∀ t ∈ L, t ∈ U) → q ≤ L.length → n = ((L.take q).map fun t => (hops t).length).sum → 60 < k + q → ∃ x, numS fin hops k q L S n = (x, 0) := by
  intro k
  induction k with
  | zero =>
    intro q L S n h1 h2 h3 h4 h5
    have := nodup_few h1 h2
    omega
  | succ k ih =>
    intro q L S n h1 h2 h3 h4 h5
    simp only [numS]
    by_cases hq : q < L.length
    · obtain ⟨g1, g2⟩ := H (el L q) (h2 _ (el_mem hq))
      have hsum : n + (hops (el L q)).length = ((L.take (q + 1)).map fun t => (hops t).length).sum := by
        rw [take_el hq, List.map_append, List.sum_append, h4]
        simp
      have hle : ((L.take (q + 1)).map fun t => (hops t).length).sum ≤ 400 := Nat.le_trans (nodup_sum _ (List.Sublist.nodup (List.take_sublist _ _) h1) fun t ht => h2 t (List.mem_of_mem_take ht)) hW
      obtain ⟨m1, m2, m3, m4⟩ := numH_fits (U := U) hU (hops (el L q)) L n g2 h1 h2 (by omega)
      obtain ⟨⟨E, e1⟩, _⟩ := numH_facts (hops (el L q)) L n h1 m1
      rw [if_pos hq, if_neg (fun g => g g1), if_neg (fun g => g m1)]
      refine ih _ _ _ _ m2 m3 (by omega) ?_ (by omega)
      rw [hsum, e1, List.take_append_of_le_length (by omega)]
    · rw [if_neg hq]
      exact ⟨_, rfl⟩
theorem numA_fitsW {s0 : α} {U : List α} (hU : U.length ≤ 60) (hW : (U.map fun t => (hops t).length).sum ≤ 400) (h0 : s0 ∈ U) (H : ∀ t ∈ U, (fin t).2 = 0 ∧ ∀ h ∈ hops t, h.2.2.1 ≤ 1000000000 ∧ h.2.2.2 ∈ U) : ∃ x, numA fin hops s0 = (x, 0) :=
 numS_fitsW hU hW H 61 0 [s0] [] 0 (by simp) (fun t ht => by rw [List.mem_singleton] at ht; rw [ht]; exact h0) (by simp) (by simp) (by omega)
end
theorem arcs_sum (l : List St) : ((List.range l.length).map fun q => (el l q).2.length).sum = arcN l := by
  have : ∀ k, k ≤ l.length → ((List.range k).map fun q => (el l q).2.length).sum = arcN (l.take k) := by
    intro k
    induction k with
    | zero => intro _; simp [arcN]
    | succ k ih =>
      intro hk
      rw [List.range_succ, List.map_append, List.sum_append, ih (by omega), arcN_take (by omega)]
      simp
  have h := this l.length (Nat.le_refl _)
  rw [List.take_length] at h
  exact h
theorem lst_done {z : Int} {l : List St} (hr : faultM (z, l) = 0) {f : Nat → Nat} (hf : FstC l f) {s : Nat} (hs : s < l.length) : ∃ x, lstA l f s = (x, 0) := by
 have h2 := right_size hr
 unfold lstA
 refine numA_fitsW (U := List.range l.length) (by simpa using h2.1) ?_ (List.mem_range.2 (Nat.lt_of_le_of_lt (hf.le s) hs)) fun t ht => ?_
 ·have e : (fun t => (lstH l f t).length) = fun q => (el l q).2.length := by funext q; simp [lstH]
  rw [e, arcs_sum]
  exact h2.2
 ·have htl := List.mem_range.1 ht
  refine ⟨rfl, fun h hh => ?_⟩
  obtain ⟨a, ha, rfl⟩ := List.mem_map.1 hh
  obtain ⟨_, _, _, _, _, h3, u, hu, hul⟩ := arc_rightP (m := (z, l)) hr htl ha
  refine ⟨h3, List.mem_range.2 ?_⟩
  simp only at hu ⊢
  rw [hu, Int.toNat_natCast]
  exact Nat.lt_of_le_of_lt (hf.le u) hul
theorem arcB_mayL {n : Nat} {x : Ar} (h1 : 0 ≤ x.1 ∧ x.1 ≤ 1000) (h2 : 0 ≤ x.2.1 ∧ x.2.1 ≤ 1000) (h3 : 0 ≤ x.2.2.1 ∧ x.2.2.1 ≤ 1000000000) (h4 : 0 ≤ x.2.2.2 ∧ x.2.2.2 < (n : Int)) : arcB n x = true := by
 simp only [arcB, inB, Bool.and_eq_true, decide_eq_true_eq]
 omega
section
variable {z : Int} {l : List St} {f : Nat → Nat}
theorem to_of (hr : faultM (z, l) = 0) : ∀ q, q < l.length → ∀ a ∈ (el l q).2, ∃ t : Nat, a.2.2.2 = (t : Int) ∧ t < l.length := fun q hq a ha => (arc_rightP (m := (z, l)) hr hq ha).2.2.2.2.2.2
theorem FstC.lt (hf : FstC l f) {q : Nat} (hq : q < l.length) : f q < l.length := Nat.lt_of_le_of_lt (hf.le q) hq
theorem FstC.idem (hf : FstC l f) {q : Nat} (hq : q < l.length) : f (f q) = f q := (hf.one _ _ (hf.lt hq) hq).2 (hf.alk q hq)
theorem FstC.same (hr : faultM (z, l) = 0) (hf : FstC l f) {q : Nat} (hq : q < l.length) : lstF l (f q) = lstF l q ∧ lstH l f (f q) = lstH l f q := lst_same (to_of hr) hf (hf.lt hq) hq (hf.alk q hq)
theorem lst_exp (hr : faultM (z, l) = 0) (hf : FstC l f) {s : Nat} (hs : s < l.length) {x : Mc} (h : lstA l f s = (x, 0)) : x.1 = 0 ∧ ∃ L, ExpI (lstF l) (lstH l f) (f s) L.length L x.2 ∧ ∀ t ∈ L, t < l.length ∧ f t = t := by
  obtain ⟨h1, L, hE⟩ := numA_done h
  refine ⟨h1, L, hE, fun t ht => ?_⟩
  obtain ⟨i, hi, rfl⟩ := mem_el ht
  induction i using Nat.strongRecOn with
  | _ i ih =>
    by_cases h0 : i = 0
    · subst h0
      rw [hE.zero.2.1]
      exact ⟨hf.lt hs, hf.idem hs⟩
    · obtain ⟨j, k, hj, _, hk, e⟩ := hE.led i (by omega) hi
      obtain ⟨hjl, _⟩ := ih j hj (by omega) (el_mem (by omega))
      rw [← e]
      obtain ⟨a, ha, rfl⟩ := List.mem_map.1 hk
      obtain ⟨t, ht, htl⟩ := to_of hr _ hjl a ha
      simp only
      rw [ht, Int.toNat_natCast]
      exact ⟨hf.lt htl, hf.idem htl⟩
theorem lst_right (hr : faultM (z, l) = 0) (hf : FstC l f) {s : Nat} (hs : s < l.length) {x : Mc} (h : lstA l f s = (x, 0)) : faultM x = 0 ∧ 0 < x.2.length ∧ x.1 = 0 := by
 obtain ⟨h1, L, hE, hL⟩ := lst_exp hr hf hs h
 have hlen := hE.len
 have h60 := hE.l60
 have h0 := hE.zero.1
 have har := numA_arcs h
 refine ⟨faultM_ok ?_ ?_, by omega, h1⟩
 ·simp only [sizeB, Bool.and_eq_true, decide_eq_true_eq]
  exact ⟨by omega, har⟩
 ·simp only [rangeB, Bool.and_eq_true, List.all_eq_true]
  refine ⟨by simp only [inB, Bool.and_eq_true, decide_eq_true_eq]; omega, fun s' hs' => ?_⟩
  obtain ⟨i, hi, rfl⟩ := mem_el hs'
  have hiL : i < L.length := by omega
  have hli := (hL _ (el_mem hiL)).1
  rw [hE.sts i hiL]
  simp only [stB, Bool.and_eq_true, List.all_eq_true]
  refine ⟨?_, fun y hy => ?_⟩
  ·have h9 := (right_parts hr).2 _ (el_mem hli)
   simp only [stB, Bool.and_eq_true] at h9
   exact h9.1
  ·obtain ⟨g, hg, rfl⟩ := List.mem_map.1 hy
   have r3 := (el_idxG (hE.shut i hiL g hg)).1
   obtain ⟨a, ha, rfl⟩ := List.mem_map.1 hg
   obtain ⟨r1, r2, r4, r5, r6, r7, _⟩ := arc_rightP (m := (z, l)) hr hli ha
   refine arcB_mayL ⟨r1, r2⟩ ⟨r4, r5⟩ ⟨r6, r7⟩ ?_
   simp only [arcG]
   simp only at r3
   omega
end
theorem drop_el {α : Type} [Inhabited α] {hs : List (Hg α)} {i : Nat} (h : i < hs.length) : hs.drop i = el hs i :: hs.drop (i + 1) := by
 rw [List.drop_eq_getElem_cons h, el_get h]
section
variable {α : Type} [DecidableEq α] [Inhabited α]
def hpL (hs : List (Hg α)) (L : List α) : Nat → List α
 | 0 => L
 | i + 1 => addG (hpL hs L i) (el hs i).2.2.2
def hpA (hs : List (Hg α)) (L : List α) : Nat → List Ar
 | 0 => []
 | i + 1 => hpA hs L i ++ [arcG (hpL hs L i) (el hs i)]
theorem hpA_len (hs : List (Hg α)) (L : List α) : ∀ i, (hpA hs L i).length = i
 | 0 => rfl
 | i + 1 => by simp [hpA, hpA_len hs L i]
theorem hpL_nodup {hs : List (Hg α)} {L : List α} (h : L.Nodup) : ∀ i, (hpL hs L i).Nodup
 | 0 => h
 | i + 1 => addG_nodup (hpL_nodup h i) _
def Fine (hs : List (Hg α)) (L : List α) (n i : Nat) : Prop := ∀ j, j < i → (el hs j).2.2.1 ≤ 1000000000 ∧ n + (j + 1) ≤ 400 ∧ (hpL hs L (j + 1)).length ≤ 60
theorem numH_at {hs : List (Hg α)} {L : List α} {n : Nat} : ∀ {i : Nat}, i ≤ hs.length → Fine hs L n i → numH hs L n = ((numH (hs.drop i) (hpL hs L i) (n + i)).1, (numH (hs.drop i) (hpL hs L i) (n + i)).2.1, hpA hs L i ++ (numH (hs.drop i) (hpL hs L i) (n + i)).2.2) := by
  intro i
  induction i with
  | zero => intro _ _; simp [hpL, hpA]
  | succ i ih =>
    intro hi hf
    obtain ⟨h1, h2, h3⟩ := hf i (Nat.lt_succ_self _)
    rw [ih (by omega) (fun j hj => hf j (by omega)), drop_el (by omega)]
    simp only [numH]
    have h3' : (addG (hpL hs L i) (el hs i).2.2.2).length ≤ 60 := h3
    rw [if_neg (by omega), if_neg (by omega)]
    simp only [hpL, hpA, List.append_assoc, List.singleton_append, Nat.add_assoc]
variable {fin : α → Int × Int} {hops : α → List (Hg α)} {s0 : α}
structure NumI (fin : α → Int × Int) (hops : α → List (Hg α)) (s0 : α) (q : Nat) (L : List α) (S : List St) (n : Nat) : Prop where
 nodup : L.Nodup
 le : q ≤ L.length
 l60 : L.length ≤ 60
 n4 : n ≤ 400
 len : S.length = q
 exp : ExpI fin hops s0 q L S
 ans : numA fin hops s0 = numS fin hops (61 - q) q L S n
theorem NumI.init (fin : α → Int × Int) (hops : α → List (Hg α)) (s0 : α) : NumI fin hops s0 0 [s0] [] 0 := ⟨by simp, by simp, by simp, by omega, rfl, ExpI.init _ _ _, rfl⟩
variable {q : Nat} {L : List α} {S : List St} {n : Nat}
theorem NumI.stop (h : NumI fin hops s0 q L S n) (hq : ¬ q < L.length) : numA fin hops s0 = ((0, S), 0) := by
 have h1 := h.le
 have h2 := h.l60
 rw [h.ans, show 61 - q = (60 - q) + 1 by omega]
 simp only [numS]
 rw [if_neg hq]
theorem NumI.bad (h : NumI fin hops s0 q L S n) (hq : q < L.length) (he : (fin (el L q)).2 = 0) {ec : Int} (h0 : ec ≠ 0) (hn : (numH (hops (el L q)) L n).1 = ec) : numA fin hops s0 = ((0, []), ec) := by
 have h2 := h.l60
 rw [h.ans, show 61 - q = (60 - q) + 1 by omega]
 simp only [numS]
 rw [if_pos hq, if_neg (fun g => g he), hn, if_pos h0]
theorem NumI.over (h : NumI fin hops s0 q L S n) (hq : q < L.length) (he : (fin (el L q)).2 = 0) {i : Nat} (hi : i < (hops (el L q)).length) (hf : Fine (hops (el L q)) L n i) (ho : 1000000000 < (el (hops (el L q)) i).2.2.1) : numA fin hops s0 = ((0, []), 4) := by
 refine h.bad hq he (by decide) ?_
 rw [numH_at (by omega) hf, drop_el hi]
 simp only [numH]
 rw [if_pos ho]
theorem NumI.full (h : NumI fin hops s0 q L S n) (hq : q < L.length) (he : (fin (el L q)).2 = 0) {i : Nat} (hi : i < (hops (el L q)).length) (hf : Fine (hops (el L q)) L n i) (ho : (el (hops (el L q)) i).2.2.1 ≤ 1000000000) (hx : 400 < n + (i + 1) ∨ 60 < (hpL (hops (el L q)) L (i + 1)).length) : numA fin hops s0 = ((0, []), 5) := by
 refine h.bad hq he (by decide) ?_
 rw [numH_at (by omega) hf, drop_el hi]
 simp only [numH]
 rw [if_neg (by omega), if_pos (by simpa [hpL, Nat.add_assoc] using hx)]
theorem NumI.next (h : NumI fin hops s0 q L S n) (hq : q < L.length) (he : (fin (el L q)).2 = 0) (hf : Fine (hops (el L q)) L n (hops (el L q)).length) :
  NumI fin hops s0 (q + 1) (hpL (hops (el L q)) L (hops (el L q)).length) (S ++ [((fin (el L q)).1, hpA (hops (el L q)) L (hops (el L q)).length)]) (n + (hops (el L q)).length) := by
 have h2 := h.l60
 have e := numH_at (Nat.le_refl _) hf
 rw [List.drop_length] at e
 simp only [numH, List.append_nil] at e
 have e0 : (numH (hops (el L q)) L n).1 = 0 := by rw [e]
 have hs := h.exp.step hq he e0
 rw [e] at hs
 simp only at hs
 have hn : n + (hops (el L q)).length ≤ 400 := by
  have h4 := h.n4
  cases hl : (hops (el L q)).length with
  | zero => omega
  | succ k => have := (hf k (by omega)).2.1; omega
 refine ⟨hs.nodup, hs.le, hs.l60, hn, hs.len, hs, ?_⟩
 rw [h.ans, show 61 - q = (60 - q) + 1 by omega, show 61 - (q + 1) = 60 - q by omega]
 conv => lhs; simp only [numS]
 rw [if_pos hq, if_neg (fun g => g he), if_neg (fun g => g e0), e]
def fndG (L : List α) (t : α) : Nat → Int
 | 0 => -1
 | k + 1 => if el L k = t then (k : Int) else fndG L t k
theorem fndG_all {L : List α} (hn : L.Nodup) (t : α) : ∀ k, k ≤ L.length → (∃ j, j < k ∧ el L j = t ∧ fndG L t k = (j : Int)) ∨ ((∀ j, j < k → el L j ≠ t) ∧ fndG L t k = -1)
  | 0, _ => .inr ⟨fun j hj => absurd hj (by omega), rfl⟩
  | k + 1, h => by
    simp only [fndG]
    by_cases e : el L k = t
    · rw [if_pos e]
      exact .inl ⟨k, by omega, e, rfl⟩
    · rw [if_neg e]
      rcases fndG_all hn t k (by omega) with ⟨j, h1, h2, h3⟩ | ⟨h1, h2⟩
      · exact .inl ⟨j, by omega, h2, h3⟩
      · refine .inr ⟨fun j hj => ?_, h2⟩
        by_cases g : j = k
        · rw [g]; exact e
        · exact h1 j (by omega)
end
section
variable {α : Type} [DecidableEq α] [Inhabited α] {fin : α → Int × Int} {hops : α → List (Hg α)} {s0 : α} {q : Nat} {L : List α} {S : List St} {n : Nat}
theorem NumI.fine (h : NumI fin hops s0 q L S n) (hq : q < L.length) (he : (fin (el L q)).2 = 0) {x : Mc} (hx : numA fin hops s0 = (x, 0)) : ∀ i, i ≤ (hops (el L q)).length → Fine (hops (el L q)) L n i := by
  intro i
  induction i with
  | zero => intro _ j hj; omega
  | succ i ih =>
    intro hi
    have hf := ih (by omega)
    have c1 : (el (hops (el L q)) i).2.2.1 ≤ 1000000000 := by
      refine Classical.byContradiction fun g => ?_
      have h9 := h.over hq he (i := i) (by omega) hf (by omega)
      rw [hx] at h9
      simp at h9
    have c2 : ¬ (400 < n + (i + 1) ∨ 60 < (hpL (hops (el L q)) L (i + 1)).length) := fun g => by
      have h9 := h.full hq he (i := i) (by omega) hf c1 g
      rw [hx] at h9
      simp at h9
    intro j hj
    by_cases e : j < i
    · exact hf j e
    · obtain rfl : j = i := by omega
      exact ⟨c1, by omega, by omega⟩
end
structure BfsI (l : List St) (f : Nat → Nat) (s q : Nat) (L : List Nat) (S : List St) (n : Nat) : Prop where
 num : NumI (lstF l) (lstH l f) (f s) q (L.map f) S n
 low : ∀ t ∈ L, t < l.length
structure ArcI (l : List St) (f : Nat → Nat) (L : List Nat) (o i : Nat) (Lc : List Nat) (ar : List Ar) : Prop where
 lst : Lc.map f = hpL (lstH l f o) (L.map f) i
 arc : ar = hpA (lstH l f o) (L.map f) i
 low : ∀ t ∈ Lc, t < l.length
 nodup : (L.map f).Nodup
section
variable {z : Int} {l : List St} {f : Nat → Nat} {s q n o i : Nat} {L Lc : List Nat} {S : List St} {ar : List Ar}
theorem BfsI.init (hs : s < l.length) : BfsI l f s 0 [s] [] 0 := ⟨NumI.init _ _ _, fun t ht => by rw [List.mem_singleton] at ht; rw [ht]; exact hs⟩
theorem BfsI.l60 (h : BfsI l f s q L S n) : L.length ≤ 60 ∧ n ≤ 400 ∧ S.length = q ∧ q ≤ L.length := by
 have h1 := h.num.l60
 have h2 := h.num.le
 rw [List.length_map] at h1 h2
 exact ⟨h1, h.num.n4, h.num.len, h2⟩
theorem BfsI.stop (h : BfsI l f s q L S n) (hq : ¬ q < L.length) : lstA l f s = ((0, S), 0) := h.num.stop (by rw [List.length_map]; exact hq)
theorem BfsI.nodup (h : BfsI l f s q L S n) : (L.map f).Nodup := h.num.nodup
theorem ArcI.init (h : BfsI l f s q L S n) : ArcI l f L o 0 L [] := ⟨rfl, rfl, h.low, h.num.nodup⟩
theorem BfsI.fine (hr : faultM (z, l) = 0) (hf : FstC l f) (hs : s < l.length) (h : BfsI l f s q L S n) (hq : q < L.length) : ∀ i, i ≤ (el l (el L q)).2.length → Fine (lstH l f (el L q)) (L.map f) n i := by
 obtain ⟨x, hx⟩ := lst_done hr hf hs
 have hm : el (L.map f) q = f (el L q) := el_map hq _
 have hl := h.low _ (el_mem hq)
 have h9 := h.num.fine (by rw [List.length_map]; exact hq) rfl hx
 rw [hm, (hf.same hr hl).2] at h9
 intro i hi
 exact h9 i (by simpa [lstH] using hi)
theorem ArcI.done (hr : faultM (z, l) = 0) (hf : FstC l f) (hs : s < l.length) (h : BfsI l f s q L S n) (hq : q < L.length) (ha : ArcI l f L (el L q) (el l (el L q)).2.length Lc ar) : BfsI l f s (q + 1) Lc (S ++ [((el l (el L q)).1, ar)]) (n + (el l (el L q)).2.length) := by
 have hm : el (L.map f) q = f (el L q) := el_map hq _
 have hl := h.low _ (el_mem hq)
 have hlen : (lstH l f (el L q)).length = (el l (el L q)).2.length := by simp [lstH]
 have h1 := hf.same hr hl
 have h9 := h.num.next (by rw [List.length_map]; exact hq) rfl (by rw [hm, h1.2, hlen]; exact BfsI.fine hr hf hs h hq _ (Nat.le_refl _))
 rw [hm, h1.2, h1.1, hlen, ← ha.lst, ← ha.arc] at h9
 exact ⟨h9, ha.low⟩
theorem ArcI.len (hr : faultM (z, l) = 0) (hf : FstC l f) (hs : s < l.length) (h : BfsI l f s q L S n) (hq : q < L.length) (ha : ArcI l f L (el L q) i Lc ar) (hi : i ≤ (el l (el L q)).2.length) : Lc.length ≤ 60 ∧ ar.length = i := by
 have h1 := BfsI.fine hr hf hs h hq i hi
 refine ⟨?_, by rw [ha.arc, hpA_len]⟩
 have e : Lc.length = (hpL (lstH l f (el L q)) (L.map f) i).length := by rw [← ha.lst, List.length_map]
 cases i with
 | zero => rw [e]; exact h.num.l60
 | succ i => rw [e]; exact (h1 i (Nat.lt_succ_self _)).2.2
theorem ArcI.old (ha : ArcI l f L o i Lc ar) (hi : i < (el l o).2.length) {t : Nat} (ht : (el (el l o).2 i).2.2.2 = (t : Int)) {j : Nat} (hj : j < Lc.length) (hjt : f (el Lc j) = f t) : ArcI l f L o (i + 1) Lc (ar ++ [((el (el l o).2 i).1, (el (el l o).2 i).2.1, (el (el l o).2 i).2.2.1, (j : Int))]) := by
 have hh : el (lstH l f o) i = ((el (el l o).2 i).1, (el (el l o).2 i).2.1, (el (el l o).2 i).2.2.1, f t) := by unfold lstH; rw [el_map hi, ht, Int.toNat_natCast]
 have hnd : (Lc.map f).Nodup := by rw [ha.lst]; exact hpL_nodup ha.nodup _
 have hel : el (Lc.map f) j = f t := (el_map hj _).trans hjt
 have hjl : j < (Lc.map f).length := by rw [List.length_map]; exact hj
 have hm : f t ∈ Lc.map f := by rw [← hel]; exact el_mem hjl
 have hx := idxG_el hnd hjl
 rw [hel] at hx
 refine ⟨?_, ?_, ha.low, ha.nodup⟩
 ·simp only [hpL]
  rw [hh, ← ha.lst, addG_old hm]
 ·simp only [hpA]
  rw [hh, ← ha.arc, ← ha.lst]
  simp only [arcG]
  rw [hx]
theorem ArcI.new (ha : ArcI l f L o i Lc ar) (hi : i < (el l o).2.length) {t : Nat} (ht : (el (el l o).2 i).2.2.2 = (t : Int)) (htl : t < l.length) (hno : ∀ j, j < Lc.length → f (el Lc j) ≠ f t) : ArcI l f L o (i + 1) (Lc ++ [t]) (ar ++ [((el (el l o).2 i).1, (el (el l o).2 i).2.1, (el (el l o).2 i).2.2.1, (Lc.length : Int))]) := by
 have hh : el (lstH l f o) i = ((el (el l o).2 i).1, (el (el l o).2 i).2.1, (el (el l o).2 i).2.2.1, f t) := by unfold lstH; rw [el_map hi, ht, Int.toNat_natCast]
 have hm : f t ∉ Lc.map f := fun g => by
  obtain ⟨j, hj, e⟩ := mem_el g
  rw [List.length_map] at hj
  rw [el_map hj] at e
  exact hno j hj e
 have hx : (Lc.map f).idxOf (f t) = Lc.length := by rw [idxG_new hm, List.length_map]
 refine ⟨?_, ?_, fun u hu => ?_, ha.nodup⟩
 ·simp only [hpL]
  rw [hh, ← ha.lst, addG_new hm, List.map_append]
  rfl
 ·simp only [hpA]
  rw [hh, ← ha.arc, ← ha.lst]
  simp only [arcG]
  rw [hx]
 ·rcases List.mem_append.1 hu with g | g
  ·exact ha.low u g
  ·rw [List.mem_singleton] at g; rw [g]; exact htl
end
end Go.Proofs.YthajkkobgfighaaGreatDoor.Pl
namespace Go.Proofs.YthajkkobgfighaaGreatDoor.Pl
def bl (s : ByteArray) : List UInt8 := s.data.toList
def digB (c : UInt8) : Bool := decide (48 ≤ (c.toNat : Int) ∧ (c.toNat : Int) ≤ 57)
theorem digB_true {c : UInt8} : digB c = true ↔ (48 ≤ (c.toNat : Int) ∧ (c.toNat : Int) ≤ 57) := by unfold digB; simp
def numV (l : List UInt8) : Int := l.foldl (fun n c => 10 * n + ((c.toNat : Int) - 48)) 0
theorem numV_snoc (l : List UInt8) (c : UInt8) : numV (l ++ [c]) = 10 * numV l + ((c.toNat : Int) - 48) := by simp [numV]
theorem all_snoc (l : List UInt8) (c : UInt8) : (l ++ [c]).all digB = (l.all digB && digB c) := by simp
theorem head_app (l m : List UInt8) (h : l ≠ []) : (l ++ m).head? = l.head? := by
 cases l with
 | nil => exact absurd rfl h
 | cons x l => rfl
theorem dig_nat (d : Nat) (h : d < 10) : (UInt8.ofNat (48 + d)).toNat = 48 + d := by
 rw [UInt8.toNat_ofNat']; omega
theorem dec_big (u : Nat) (h : ¬ u < 10) : Lib.decDigits u = Lib.decDigits (u / 10) ++ [UInt8.ofNat (48 + u % 10)] := by rw [Lib.decDigits, dif_neg h]
theorem dec_digits (u : Nat) : (Lib.decDigits u).all digB = true ∧ numV (Lib.decDigits u) = (u : Int) ∧ (1 ≤ u → (Lib.decDigits u).head? ≠ some 48) ∧ 1 ≤ (Lib.decDigits u).length := by
  induction u using Nat.strongRecOn with
  | _ u ih =>
    by_cases h : u < 10
    · rw [Lib.decDigits_one h]
      have hd := dig_nat u h
      refine ⟨?_, ?_, ?_, by simp⟩
      · rw [List.all_cons, List.all_nil, Bool.and_true]
        exact digB_true.2 (by omega)
      · have := numV_snoc [] (UInt8.ofNat (48 + u))
        rw [List.nil_append] at this
        rw [this, hd]; simp [numV]; omega
      · intro h1 e
        have e' : UInt8.ofNat (48 + u) = 48 := by simpa using e
        have := congrArg UInt8.toNat e'
        rw [hd] at this
        have h48 : (48 : UInt8).toNat = 48 := rfl
        omega
    · obtain ⟨i1, i2, i3, i4⟩ := ih (u / 10) (by omega)
      have hd := dig_nat (u % 10) (by omega)
      rw [dec_big u h]
      refine ⟨?_, ?_, ?_, ?_⟩
      · rw [all_snoc, i1, Bool.true_and]
        exact digB_true.2 (by omega)
      · rw [numV_snoc, i2, hd]; omega
      · intro _
        have hne : Lib.decDigits (u / 10) ≠ [] := by intro e; rw [e] at i4; simp at i4
        rw [head_app _ _ hne]
        exact i3 (by omega)
      · rw [List.length_append]; omega
theorem dec_len : ∀ (k u : Nat), u < 10 ^ (k + 1) → (Lib.decDigits u).length ≤ k + 1 := by
  intro k
  induction k with
  | zero => intro u hu; rw [Lib.decDigits_one (by omega)]; simp
  | succ k ih =>
    intro u hu
    by_cases h : u < 10
    · rw [Lib.decDigits_one h]; simp
    · rw [dec_big u h, List.length_append]
      have := ih (u / 10) (by rw [Nat.pow_succ] at hu; omega)
      simp; omega
theorem itoa_nat {n : Int} (h : 0 ≤ n) : Lib.itoa n = Lib.decDigits n.toNat := by unfold Lib.itoa; rw [if_neg (by omega)]
end Go.Proofs.YthajkkobgfighaaGreatDoor.Pl
namespace Go.Proofs.YthajkkobgfighaaGreatDoor.Pl
set_option linter.unusedVariables false
set_option linter.unusedSimpArgs false
theorem cut_one (c : UInt8) : ∀ (x y r s : List UInt8), (∀ b ∈ x, b ≠ c) → (∀ b ∈ y, b ≠ c) → x ++ c :: r = y ++ c :: s → x = y ∧ r = s
  | [], [], r, s, _, _, h => ⟨rfl, by simpa using h⟩
  | [], b :: y, r, s, _, hy, h => by
    simp only [List.nil_append, List.cons_append, List.cons.injEq] at h
    exact absurd h.1.symm (hy b List.mem_cons_self)
  | b :: x, [], r, s, hx, _, h => by
    simp only [List.nil_append, List.cons_append, List.cons.injEq] at h
    exact absurd h.1 (hx b List.mem_cons_self)
  | b :: x, d :: y, r, s, hx, hy, h => by
    simp only [List.cons_append, List.cons.injEq] at h
    obtain ⟨h1, h2⟩ := cut_one c x y r s (fun z hz => hx z (List.mem_cons_of_mem _ hz)) (fun z hz => hy z (List.mem_cons_of_mem _ hz)) h.2
    exact ⟨by rw [h.1, h1], h2⟩
def dgT (n : Int) : List UInt8 := Lib.decDigits n.toNat
theorem dgT_bytes (n : Int) : ∀ b ∈ dgT n, b ≠ 58 ∧ b ≠ 32 := by
 intro b hb
 have h := (dec_digits n.toNat).1
 rw [List.all_eq_true] at h
 have h1 := digB_true.1 (h b hb)
 constructor
 ·rintro rfl
  simp at h1
 ·rintro rfl
  simp at h1
theorem dgT_inj {a b : Int} (ha : 0 ≤ a) (hb : 0 ≤ b) (h : dgT a = dgT b) : a = b := by
 have h1 := (dec_digits a.toNat).2.1
 have h2 := (dec_digits b.toNat).2.1
 unfold dgT at h
 rw [h] at h1
 omega
theorem dgT_len {n : Int} (h : n ≤ 9999999999999) : (dgT n).length ≤ 13 := dec_len 12 n.toNat (by omega)
end Go.Proofs.YthajkkobgfighaaGreatDoor.Pl
