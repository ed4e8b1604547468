/- States that are alike: a table of what is told apart, round by round (no program in sight). -/
import Derived.Test.YtfhjncpakgailaaGreatDoorPau
import Derived.Test.YtfhjncpakgailaaGreatDoorPap
import Derived.Test.YtfhjncpakgailaaGreatDoorPaj
import Derived.Test.YtfhjncpakgailaaGreatDoorPak
namespace Go.Proofs.YtfhjncpakgailaaGreatDoor.Pl
set_option linter.unusedVariables false
set_option linter.unusedSimpArgs false
def aptK (l : List St) (T : Nat → Nat → Bool) (q p k : Nat) : Bool := (List.range k).any fun i => T (el (el l q).2 i).2.2.2.toNat (el (el l p).2 i).2.2.2.toNat
def aptB (l : List St) (T : Nat → Nat → Bool) (q p : Nat) : Bool := difB (el l q) (el l p) || aptK l T q p (el l q).2.length
theorem aptK_true {l : List St} {T : Nat → Nat → Bool} {q p k : Nat} : aptK l T q p k = true ↔ ∃ i, i < k ∧ T (el (el l q).2 i).2.2.2.toNat (el (el l p).2 i).2.2.2.toNat = true := by
 unfold aptK
 rw [List.any_eq_true]
 constructor
 ·rintro ⟨i, h1, h2⟩; exact ⟨i, List.mem_range.1 h1, h2⟩
 ·rintro ⟨i, h1, h2⟩; exact ⟨i, List.mem_range.2 h1, h2⟩
theorem aptB_true {l : List St} {T : Nat → Nat → Bool} {q p : Nat} : aptB l T q p = true ↔ difB (el l q) (el l p) = true ∨ ∃ i, i < (el l q).2.length ∧ T (el (el l q).2 i).2.2.2.toNat (el (el l p).2 i).2.2.2.toNat = true := by
 unfold aptB
 rw [Bool.or_eq_true, aptK_true]
section
variable {l : List St} {T : Nat → Nat → Bool}
theorem apt_sound (hto : ∀ q, q < l.length → ∀ a ∈ (el l q).2, ∃ t : Nat, a.2.2.2 = (t : Int) ∧ t < l.length) (hT : ∀ q p, q < l.length → p < l.length → T q p = true → Aprt l q p) {q p : Nat} (hq : q < l.length) (hp : p < l.length) (h : aptB l T q p = true) : Aprt l q p := by
  cases hd : difB (el l q) (el l p) with
  | true => exact .now hd
  | false =>
    unfold aptB at h
    rw [hd, Bool.false_or] at h
    obtain ⟨i, hi, hi2⟩ := aptK_true.1 h
    obtain ⟨t, ht, htl⟩ := hto q hq _ (el_mem hi)
    obtain ⟨u, hu, hul⟩ := hto p hp _ (el_mem (by rw [← dif_len hd]; exact hi))
    rw [ht, hu, Int.toNat_natCast, Int.toNat_natCast] at hi2
    exact .step hd hi ht hu (hT t u htl hul hi2)
theorem apt_all (hto : ∀ q, q < l.length → ∀ a ∈ (el l q).2, ∃ t : Nat, a.2.2.2 = (t : Int) ∧ t < l.length) (hT : ∀ q p, q < l.length → p < l.length → T q p = true → Aprt l q p) (hc : ∀ q p, q < l.length → p < l.length → T q p = false → aptB l T q p = false) : ∀ q p, q < l.length → p < l.length → (T q p = true ↔ Aprt l q p) := by
  intro q p hq hp
  refine ⟨hT q p hq hp, fun h => ?_⟩
  induction h with
  | @now q p hd =>
    cases e : T q p with
    | true => rfl
    | false =>
      have h9 := hc q p hq hp e
      unfold aptB at h9
      rw [hd] at h9
      simp at h9
  | @step q p i t u hd hi ht hu _ ih =>
    obtain ⟨t2, ht2, htl⟩ := hto q hq _ (el_mem hi)
    obtain ⟨u2, hu2, hul⟩ := hto p hp _ (el_mem (by rw [← dif_len hd]; exact hi))
    rw [ht] at ht2
    rw [hu] at hu2
    have e1 : t = t2 := by omega
    have e2 : u = u2 := by omega
    subst e1
    subst e2
    have h8 := ih htl hul
    cases e : T q p with
    | true => rfl
    | false =>
      have h9 := hc q p hq hp e
      unfold aptB at h9
      rw [Bool.or_eq_false_iff] at h9
      have h7 : aptK l T q p (el l q).2.length = true := aptK_true.2 ⟨i, hi, by rw [ht, hu, Int.toNat_natCast, Int.toNat_natCast]; exact h8⟩
      rw [h9.2] at h7
      cases h7
end
theorem nodup_few {α : Type} [DecidableEq α] : ∀ {L U : List α}, L.Nodup → (∀ t ∈ L, t ∈ U) → L.length ≤ U.length
  | [], U, _, _ => Nat.zero_le _
  | x :: L, U, h, hs => by
    rw [List.nodup_cons] at h
    have hx := hs x List.mem_cons_self
    have h1 := nodup_few (L := L) (U := U.erase x) h.2 (fun t ht => by
      have : t ≠ x := fun e => h.1 (e ▸ ht)
      exact (List.mem_erase_of_ne this).2 (hs t (List.mem_cons_of_mem _ ht)))
    have h2 := List.length_erase_of_mem hx
    have h3 : 0 < U.length := List.length_pos_of_mem hx
    simp only [List.length_cons]
    omega
section
variable {α : Type} [DecidableEq α]
theorem numH_fits {U : List α} (hU : U.length ≤ 60) : ∀ (hs : List (Hg α)) (L : List α) (n : Nat), (∀ h ∈ hs, h.2.2.1 ≤ 1000000000 ∧ h.2.2.2 ∈ U) → L.Nodup → (∀ t ∈ L, t ∈ U) → n + hs.length ≤ 400 → (numH hs L n).1 = 0 ∧ (numH hs L n).2.1.Nodup ∧ (∀ t ∈ (numH hs L n).2.1, t ∈ U) ∧ L.length ≤ (numH hs L n).2.1.length := by
  intro hs
  induction hs with
  | nil => intro L n _ h1 h2 _; exact ⟨rfl, h1, h2, Nat.le_refl _⟩
  | cons h hs ih =>
    intro L n hh h1 h2 hn
    obtain ⟨g1, g2⟩ := hh h List.mem_cons_self
    have k1 := addG_nodup h1 h.2.2.2
    have k2 : ∀ t ∈ addG L h.2.2.2, t ∈ U := fun t ht => by
      unfold addG at ht
      split at ht
      · exact h2 t ht
      · rcases List.mem_append.1 ht with g | g
        · exact h2 t g
        · rw [List.mem_singleton] at g; rw [g]; exact g2
    have k3 := nodup_few k1 k2
    simp only [List.length_cons] at hn
    obtain ⟨m1, m2, m3, m4⟩ := ih (addG L h.2.2.2) (n + 1) (fun k hk => hh k (List.mem_cons_of_mem _ hk)) k1 k2 (by omega)
    simp only [numH]
    rw [if_neg (by omega), if_neg (by omega)]
    exact ⟨m1, m2, m3, Nat.le_trans (addG_len L h.2.2.2).1 m4⟩
end
theorem sum_erase {α : Type} [DecidableEq α] (g : α → Nat) {x : α} : ∀ {U : List α}, x ∈ U → (U.map g).sum = g x + ((U.erase x).map g).sum
  | [], h => by cases h
  | y :: U, h => by
    by_cases e : y = x
    · subst e
      rw [List.erase_cons_head]
      simp
    · have hx : x ∈ U := by
        rcases List.mem_cons.1 h with g | g
        · exact absurd g.symm e
        · exact g
      rw [List.erase_cons_tail (by simpa using e)]
      simp only [List.map_cons, List.sum_cons]
      rw [sum_erase g hx]
      omega
theorem nodup_sum {α : Type} [DecidableEq α] (g : α → Nat) : ∀ {L U : List α}, L.Nodup → (∀ t ∈ L, t ∈ U) → (L.map g).sum ≤ (U.map g).sum
  | [], U, _, _ => Nat.zero_le _
  | x :: L, U, h, hs => by
    rw [List.nodup_cons] at h
    have hx := hs x List.mem_cons_self
    have h1 := nodup_sum g (L := L) (U := U.erase x) h.2 (fun t ht => by
      have : t ≠ x := fun e => h.1 (e ▸ ht)
      exact (List.mem_erase_of_ne this).2 (hs t (List.mem_cons_of_mem _ ht)))
    have h2 := sum_erase g hx
    simp only [List.map_cons, List.sum_cons]
    omega
section
variable {α : Type} [DecidableEq α] [Inhabited α] {fin : α → Int × Int} {hops : α → List (Hg α)}
theorem numS_fitsW {U : List α} (hU : U.length ≤ 60) (hW : (U.map fun t => (hops t).length).sum ≤ 400) (H : ∀ t ∈ U, (fin t).2 = 0 ∧ ∀ h ∈ hops t, h.2.2.1 ≤ 1000000000 ∧ h.2.2.2 ∈ U) : ∀ (k q : Nat) (L : List α) (S : List St) (n : Nat), L.Nodup → (∀ t ∈ L, t ∈ U) → q ≤ L.length → n = ((L.take q).map fun t => (hops t).length).sum → 60 < k + q → ∃ x, numS fin hops k q L S n = (x, 0) := by
  intro k
  induction k with
  | zero =>
    intro q L S n h1 h2 h3 h4 h5
    have := nodup_few h1 h2
    omega
  | succ k ih =>
    intro q L S n h1 h2 h3 h4 h5
    simp only [numS]
    by_cases hq : q < L.length
    · obtain ⟨g1, g2⟩ := H (el L q) (h2 _ (el_mem hq))
      have hsum : n + (hops (el L q)).length = ((L.take (q + 1)).map fun t => (hops t).length).sum := by
        rw [take_el hq, List.map_append, List.sum_append, h4]
        simp
      have hle : ((L.take (q + 1)).map fun t => (hops t).length).sum ≤ 400 := Nat.le_trans (nodup_sum _ (List.Sublist.nodup (List.take_sublist _ _) h1) fun t ht => h2 t (List.mem_of_mem_take ht)) hW
      obtain ⟨m1, m2, m3, m4⟩ := numH_fits (U := U) hU (hops (el L q)) L n g2 h1 h2 (by omega)
      obtain ⟨⟨E, e1⟩, _⟩ := numH_facts (hops (el L q)) L n h1 m1
      rw [if_pos hq, if_neg (fun g => g g1), if_neg (fun g => g m1)]
      refine ih _ _ _ _ m2 m3 (by omega) ?_ (by omega)
      rw [hsum, e1, List.take_append_of_le_length (by omega)]
    · rw [if_neg hq]
      exact ⟨_, rfl⟩
theorem numA_fitsW {s0 : α} {U : List α} (hU : U.length ≤ 60) (hW : (U.map fun t => (hops t).length).sum ≤ 400) (h0 : s0 ∈ U) (H : ∀ t ∈ U, (fin t).2 = 0 ∧ ∀ h ∈ hops t, h.2.2.1 ≤ 1000000000 ∧ h.2.2.2 ∈ U) : ∃ x, numA fin hops s0 = (x, 0) :=
 numS_fitsW hU hW H 61 0 [s0] [] 0 (by simp) (fun t ht => by rw [List.mem_singleton] at ht; rw [ht]; exact h0) (by simp) (by simp) (by omega)
end
theorem arcs_sum (l : List St) : ((List.range l.length).map fun q => (el l q).2.length).sum = arcN l := by
  have : ∀ k, k ≤ l.length → ((List.range k).map fun q => (el l q).2.length).sum = arcN (l.take k) := by
    intro k
    induction k with
    | zero => intro _; simp [arcN]
    | succ k ih =>
      intro hk
      rw [List.range_succ, List.map_append, List.sum_append, ih (by omega), arcN_take (by omega)]
      simp
  have h := this l.length (Nat.le_refl _)
  rw [List.take_length] at h
  exact h
theorem lst_done {z : Int} {l : List St} (hr : faultM (z, l) = 0) {f : Nat → Nat} (hf : FstC l f) {s : Nat} (hs : s < l.length) : ∃ x, lstA l f s = (x, 0) := by
 have h2 := right_size hr
 unfold lstA
 refine numA_fitsW (U := List.range l.length) (by simpa using h2.1) ?_ (List.mem_range.2 (Nat.lt_of_le_of_lt (hf.le s) hs)) fun t ht => ?_
 ·have e : (fun t => (lstH l f t).length) = fun q => (el l q).2.length := by funext q; simp [lstH]
  rw [e, arcs_sum]
  exact h2.2
 ·have htl := List.mem_range.1 ht
  refine ⟨rfl, fun h hh => ?_⟩
  obtain ⟨a, ha, rfl⟩ := List.mem_map.1 hh
  obtain ⟨_, _, _, _, _, h3, u, hu, hul⟩ := arc_rightP (m := (z, l)) hr htl ha
  refine ⟨h3, List.mem_range.2 ?_⟩
  simp only at hu ⊢
  rw [hu, Int.toNat_natCast]
  exact Nat.lt_of_le_of_lt (hf.le u) hul
theorem arcB_mayL {n : Nat} {x : Ar} (h1 : 0 ≤ x.1 ∧ x.1 ≤ 1000) (h2 : 0 ≤ x.2.1 ∧ x.2.1 ≤ 1000) (h3 : 0 ≤ x.2.2.1 ∧ x.2.2.1 ≤ 1000000000) (h4 : 0 ≤ x.2.2.2 ∧ x.2.2.2 < (n : Int)) : arcB n x = true := by
 simp only [arcB, inB, Bool.and_eq_true, decide_eq_true_eq]
 omega
section
variable {z : Int} {l : List St} {f : Nat → Nat}
theorem to_of (hr : faultM (z, l) = 0) : ∀ q, q < l.length → ∀ a ∈ (el l q).2, ∃ t : Nat, a.2.2.2 = (t : Int) ∧ t < l.length := fun q hq a ha => (arc_rightP (m := (z, l)) hr hq ha).2.2.2.2.2.2
theorem FstC.lt (hf : FstC l f) {q : Nat} (hq : q < l.length) : f q < l.length := Nat.lt_of_le_of_lt (hf.le q) hq
theorem FstC.idem (hf : FstC l f) {q : Nat} (hq : q < l.length) : f (f q) = f q := (hf.one _ _ (hf.lt hq) hq).2 (hf.alk q hq)
theorem FstC.same (hr : faultM (z, l) = 0) (hf : FstC l f) {q : Nat} (hq : q < l.length) : lstF l (f q) = lstF l q ∧ lstH l f (f q) = lstH l f q := lst_same (to_of hr) hf (hf.lt hq) hq (hf.alk q hq)
theorem lst_exp (hr : faultM (z, l) = 0) (hf : FstC l f) {s : Nat} (hs : s < l.length) {x : Mc} (h : lstA l f s = (x, 0)) : x.1 = 0 ∧ ∃ L, ExpI (lstF l) (lstH l f) (f s) L.length L x.2 ∧ ∀ t ∈ L, t < l.length ∧ f t = t := by
  obtain ⟨h1, L, hE⟩ := numA_done h
  refine ⟨h1, L, hE, fun t ht => ?_⟩
  obtain ⟨i, hi, rfl⟩ := mem_el ht
  induction i using Nat.strongRecOn with
  | _ i ih =>
    by_cases h0 : i = 0
    · subst h0
      rw [hE.zero.2.1]
      exact ⟨hf.lt hs, hf.idem hs⟩
    · obtain ⟨j, k, hj, _, hk, e⟩ := hE.led i (by omega) hi
      obtain ⟨hjl, _⟩ := ih j hj (by omega) (el_mem (by omega))
      rw [← e]
      obtain ⟨a, ha, rfl⟩ := List.mem_map.1 hk
      obtain ⟨t, ht, htl⟩ := to_of hr _ hjl a ha
      simp only
      rw [ht, Int.toNat_natCast]
      exact ⟨hf.lt htl, hf.idem htl⟩
theorem lst_right (hr : faultM (z, l) = 0) (hf : FstC l f) {s : Nat} (hs : s < l.length) {x : Mc} (h : lstA l f s = (x, 0)) : faultM x = 0 ∧ 0 < x.2.length ∧ x.1 = 0 := by
 obtain ⟨h1, L, hE, hL⟩ := lst_exp hr hf hs h
 have hlen := hE.len
 have h60 := hE.l60
 have h0 := hE.zero.1
 have har := numA_arcs h
 refine ⟨faultM_ok ?_ ?_, by omega, h1⟩
 ·simp only [sizeB, Bool.and_eq_true, decide_eq_true_eq]
  exact ⟨by omega, har⟩
 ·simp only [rangeB, Bool.and_eq_true, List.all_eq_true]
  refine ⟨by simp only [inB, Bool.and_eq_true, decide_eq_true_eq]; omega, fun s' hs' => ?_⟩
  obtain ⟨i, hi, rfl⟩ := mem_el hs'
  have hiL : i < L.length := by omega
  have hli := (hL _ (el_mem hiL)).1
  rw [hE.sts i hiL]
  simp only [stB, Bool.and_eq_true, List.all_eq_true]
  refine ⟨?_, fun y hy => ?_⟩
  ·have h9 := (right_parts hr).2 _ (el_mem hli)
   simp only [stB, Bool.and_eq_true] at h9
   exact h9.1
  ·obtain ⟨g, hg, rfl⟩ := List.mem_map.1 hy
   have r3 := (el_idxG (hE.shut i hiL g hg)).1
   obtain ⟨a, ha, rfl⟩ := List.mem_map.1 hg
   obtain ⟨r1, r2, r4, r5, r6, r7, _⟩ := arc_rightP (m := (z, l)) hr hli ha
   refine arcB_mayL ⟨r1, r2⟩ ⟨r4, r5⟩ ⟨r6, r7⟩ ?_
   simp only [arcG]
   simp only at r3
   omega
theorem lst_apart (hr : faultM (z, l) = 0) (hf : FstC l f) {s : Nat} (hs : s < l.length) {x : Mc} (h : lstA l f s = (x, 0)) {i j : Nat} (hi : i < x.2.length) (hj : j < x.2.length) (hij : i ≠ j) : Aprt x.2 i j := by
  obtain ⟨h1, L, hE, hL⟩ := lst_exp hr hf hs h
  have hlen := hE.len
  have key : ∀ {q p : Nat}, Aprt l q p → q < l.length → p < l.length → ∀ i j, i < L.length → j < L.length → el L i = f q → el L j = f p → Aprt x.2 i j := by
    intro q p ha
    have hst : ∀ q i, q < l.length → i < L.length → el L i = f q → (el x.2 i).1 = (el l q).1 ∧ (el x.2 i).2 = (lstH l f q).map (arcG L) := fun q i hq hi e => by
      rw [hE.sts i hi, e, (hf.same hr hq).2]
      exact ⟨by have h9 := congrArg Prod.fst (hf.same hr hq).1; exact h9, rfl⟩
    have hdif : ∀ q p i j, q < l.length → p < l.length → i < L.length → j < L.length → el L i = f q → el L j = f p → difB (el x.2 i) (el x.2 j) = difB (el l q) (el l p) := fun q p i j hq hp hi hj e1 e2 => by
      obtain ⟨a1, a2⟩ := hst q i hq hi e1
      obtain ⟨b1, b2⟩ := hst p j hp hj e2
      unfold difB
      rw [a1, a2, b1, b2]
      simp only [lstH, List.map_map]
      rfl
    induction ha with
    | @now q p hd =>
      intro hq hp i j hi hj e1 e2
      exact .now (by rw [hdif q p i j hq hp hi hj e1 e2]; exact hd)
    | @step q p k t u hd hk ht hu _ ih =>
      intro hq hp i j hi hj e1 e2
      have hk2 : k < (el l p).2.length := by rw [← dif_len hd]; exact hk
      obtain ⟨t', ht', htl⟩ := to_of hr q hq _ (el_mem hk)
      obtain ⟨u', hu', hul⟩ := to_of hr p hp _ (el_mem hk2)
      have et : t = t' := by rw [ht] at ht'; omega
      have eu : u = u' := by rw [hu] at hu'; omega
      subst et eu
      obtain ⟨_, a2⟩ := hst q i hq hi e1
      obtain ⟨_, b2⟩ := hst p j hp hj e2
      have hh1 : el (lstH l f q) k ∈ lstH l f q := el_mem (by simp only [lstH, List.length_map]; exact hk)
      have hh2 : el (lstH l f p) k ∈ lstH l f p := el_mem (by simp only [lstH, List.length_map]; exact hk2)
      have ex1 : (el (lstH l f q) k).2.2.2 = f t := by unfold lstH; rw [el_map hk]; simp only; rw [ht, Int.toNat_natCast]
      have ex2 : (el (lstH l f p) k).2.2.2 = f u := by unfold lstH; rw [el_map hk2]; simp only; rw [hu, Int.toNat_natCast]
      have hm1 : f t ∈ L := by
        have h9 := hE.shut i hi (el (lstH l f q) k) (by rw [e1, (hf.same hr hq).2]; exact hh1)
        rwa [ex1] at h9
      have hm2 : f u ∈ L := by
        have h9 := hE.shut j hj (el (lstH l f p) k) (by rw [e2, (hf.same hr hp).2]; exact hh2)
        rwa [ex2] at h9
      obtain ⟨g1, g2⟩ := el_idxG hm1
      obtain ⟨g3, g4⟩ := el_idxG hm2
      refine .step (i := k) (t := L.idxOf (f t)) (u := L.idxOf (f u)) (by rw [hdif q p i j hq hp hi hj e1 e2]; exact hd) ?_ ?_ ?_ (ih htl hul _ _ g1 g3 g2 g4)
      · rw [a2]
        simp only [List.length_map, lstH]
        exact hk
      · rw [a2, el_map (by simp only [lstH, List.length_map]; exact hk)]
        simp only [arcG]
        rw [ex1]
      · rw [b2, el_map (by simp only [lstH, List.length_map]; exact hk2)]
        simp only [arcG]
        rw [ex2]
  have hiL : i < L.length := by omega
  have hjL : j < L.length := by omega
  obtain ⟨li, fi⟩ := hL _ (el_mem hiL)
  obtain ⟨lj, fj⟩ := hL _ (el_mem hjL)
  have hne : el L i ≠ el L j := fun e => hij (by
    have k1 := idxG_el hE.nodup hiL
    have k2 := idxG_el hE.nodup hjL
    rw [e, k2] at k1
    exact k1.symm)
  have hap : Aprt l (el L i) (el L j) := by
    refine Classical.byContradiction fun hn => hne ?_
    have h9 := (hf.one _ _ li lj).2 hn
    rw [fi, fj] at h9
    exact h9
  exact key hap li lj i j hiL hjL fi.symm fj.symm
end
section
variable {α : Type} [DecidableEq α] [Inhabited α] {fin : α → Int × Int} {hops : α → List (Hg α)} {s0 : α} {q : Nat} {L : List α} {S : List St} {n : Nat}
theorem NumI.fine (h : NumI fin hops s0 q L S n) (hq : q < L.length) (he : (fin (el L q)).2 = 0) {x : Mc} (hx : numA fin hops s0 = (x, 0)) : ∀ i, i ≤ (hops (el L q)).length → Fine (hops (el L q)) L n i := by
  intro i
  induction i with
  | zero => intro _ j hj; omega
  | succ i ih =>
    intro hi
    have hf := ih (by omega)
    have c1 : (el (hops (el L q)) i).2.2.1 ≤ 1000000000 := by
      refine Classical.byContradiction fun g => ?_
      have h9 := h.over hq he (i := i) (by omega) hf (by omega)
      rw [hx] at h9
      simp at h9
    have c2 : ¬ (400 < n + (i + 1) ∨ 60 < (hpL (hops (el L q)) L (i + 1)).length) := fun g => by
      have h9 := h.full hq he (i := i) (by omega) hf c1 g
      rw [hx] at h9
      simp at h9
    intro j hj
    by_cases e : j < i
    · exact hf j e
    · obtain rfl : j = i := by omega
      exact ⟨c1, by omega, by omega⟩
end
structure BfsI (l : List St) (f : Nat → Nat) (s q : Nat) (L : List Nat) (S : List St) (n : Nat) : Prop where
 num : NumI (lstF l) (lstH l f) (f s) q (L.map f) S n
 low : ∀ t ∈ L, t < l.length
structure ArcI (l : List St) (f : Nat → Nat) (L : List Nat) (o i : Nat) (Lc : List Nat) (ar : List Ar) : Prop where
 lst : Lc.map f = hpL (lstH l f o) (L.map f) i
 arc : ar = hpA (lstH l f o) (L.map f) i
 low : ∀ t ∈ Lc, t < l.length
 nodup : (L.map f).Nodup
section
variable {z : Int} {l : List St} {f : Nat → Nat} {s q n o i : Nat} {L Lc : List Nat} {S : List St} {ar : List Ar}
theorem BfsI.init (hs : s < l.length) : BfsI l f s 0 [s] [] 0 := ⟨NumI.init _ _ _, fun t ht => by rw [List.mem_singleton] at ht; rw [ht]; exact hs⟩
theorem BfsI.l60 (h : BfsI l f s q L S n) : L.length ≤ 60 ∧ n ≤ 400 ∧ S.length = q ∧ q ≤ L.length := by
 have h1 := h.num.l60
 have h2 := h.num.le
 rw [List.length_map] at h1 h2
 exact ⟨h1, h.num.n4, h.num.len, h2⟩
theorem BfsI.stop (h : BfsI l f s q L S n) (hq : ¬ q < L.length) : lstA l f s = ((0, S), 0) := h.num.stop (by rw [List.length_map]; exact hq)
theorem ArcI.init (h : BfsI l f s q L S n) : ArcI l f L o 0 L [] := ⟨rfl, rfl, h.low, h.num.nodup⟩
theorem BfsI.fine (hr : faultM (z, l) = 0) (hf : FstC l f) (hs : s < l.length) (h : BfsI l f s q L S n) (hq : q < L.length) : ∀ i, i ≤ (el l (el L q)).2.length → Fine (lstH l f (el L q)) (L.map f) n i := by
 obtain ⟨x, hx⟩ := lst_done hr hf hs
 have hm : el (L.map f) q = f (el L q) := el_map hq _
 have hl := h.low _ (el_mem hq)
 have h9 := h.num.fine (by rw [List.length_map]; exact hq) rfl hx
 rw [hm, (hf.same hr hl).2] at h9
 intro i hi
 exact h9 i (by simpa [lstH] using hi)
theorem ArcI.done (hr : faultM (z, l) = 0) (hf : FstC l f) (hs : s < l.length) (h : BfsI l f s q L S n) (hq : q < L.length) (ha : ArcI l f L (el L q) (el l (el L q)).2.length Lc ar) : BfsI l f s (q + 1) Lc (S ++ [((el l (el L q)).1, ar)]) (n + (el l (el L q)).2.length) := by
 have hm : el (L.map f) q = f (el L q) := el_map hq _
 have hl := h.low _ (el_mem hq)
 have hlen : (lstH l f (el L q)).length = (el l (el L q)).2.length := by simp [lstH]
 have h1 := hf.same hr hl
 have h9 := h.num.next (by rw [List.length_map]; exact hq) rfl (by rw [hm, h1.2, hlen]; exact BfsI.fine hr hf hs h hq _ (Nat.le_refl _))
 rw [hm, h1.2, h1.1, hlen, ← ha.lst, ← ha.arc] at h9
 exact ⟨h9, ha.low⟩
theorem ArcI.len (hr : faultM (z, l) = 0) (hf : FstC l f) (hs : s < l.length) (h : BfsI l f s q L S n) (hq : q < L.length) (ha : ArcI l f L (el L q) i Lc ar) (hi : i ≤ (el l (el L q)).2.length) : Lc.length ≤ 60 ∧ ar.length = i := by
 have h1 := BfsI.fine hr hf hs h hq i hi
 refine ⟨?_, by rw [ha.arc, hpA_len]⟩
 have e : Lc.length = (hpL (lstH l f (el L q)) (L.map f) i).length := by rw [← ha.lst, List.length_map]
 cases i with
 | zero => rw [e]; exact h.num.l60
 | succ i => rw [e]; exact (h1 i (Nat.lt_succ_self _)).2.2
theorem ArcI.old (ha : ArcI l f L o i Lc ar) (hi : i < (el l o).2.length) {t : Nat} (ht : (el (el l o).2 i).2.2.2 = (t : Int)) {j : Nat} (hj : j < Lc.length) (hjt : f (el Lc j) = f t) : ArcI l f L o (i + 1) Lc (ar ++ [((el (el l o).2 i).1, (el (el l o).2 i).2.1, (el (el l o).2 i).2.2.1, (j : Int))]) := by
 have hh : el (lstH l f o) i = ((el (el l o).2 i).1, (el (el l o).2 i).2.1, (el (el l o).2 i).2.2.1, f t) := by unfold lstH; rw [el_map hi, ht, Int.toNat_natCast]
 have hnd : (Lc.map f).Nodup := by rw [ha.lst]; exact hpL_nodup ha.nodup _
 have hel : el (Lc.map f) j = f t := (el_map hj _).trans hjt
 have hjl : j < (Lc.map f).length := by rw [List.length_map]; exact hj
 have hm : f t ∈ Lc.map f := by rw [← hel]; exact el_mem hjl
 have hx := idxG_el hnd hjl
 rw [hel] at hx
 refine ⟨?_, ?_, ha.low, ha.nodup⟩
 ·simp only [hpL]
  rw [hh, ← ha.lst, addG_old hm]
 ·simp only [hpA]
  rw [hh, ← ha.arc, ← ha.lst]
  simp only [arcG]
  rw [hx]
theorem ArcI.new (ha : ArcI l f L o i Lc ar) (hi : i < (el l o).2.length) {t : Nat} (ht : (el (el l o).2 i).2.2.2 = (t : Int)) (htl : t < l.length) (hno : ∀ j, j < Lc.length → f (el Lc j) ≠ f t) : ArcI l f L o (i + 1) (Lc ++ [t]) (ar ++ [((el (el l o).2 i).1, (el (el l o).2 i).2.1, (el (el l o).2 i).2.2.1, (Lc.length : Int))]) := by
 have hh : el (lstH l f o) i = ((el (el l o).2 i).1, (el (el l o).2 i).2.1, (el (el l o).2 i).2.2.1, f t) := by unfold lstH; rw [el_map hi, ht, Int.toNat_natCast]
 have hm : f t ∉ Lc.map f := fun g => by
  obtain ⟨j, hj, e⟩ := mem_el g
  rw [List.length_map] at hj
  rw [el_map hj] at e
  exact hno j hj e
 have hx : (Lc.map f).idxOf (f t) = Lc.length := by rw [idxG_new hm, List.length_map]
 refine ⟨?_, ?_, fun u hu => ?_, ha.nodup⟩
 ·simp only [hpL]
  rw [hh, ← ha.lst, addG_new hm, List.map_append]
  rfl
 ·simp only [hpA]
  rw [hh, ← ha.arc, ← ha.lst]
  simp only [arcG]
  rw [hx]
 ·rcases List.mem_append.1 hu with g | g
  ·exact ha.low u g
  ·rw [List.mem_singleton] at g; rw [g]; exact htl
end
def sgA (K : List Int) (a : Ar) : List Int := [a.1, a.2.1, a.2.2.1, el K a.2.2.2.toNat]
def sgN (K : List Int) (s : St) : List Int := s.1 :: s.2.flatMap (sgA K)
def sgT (ns : List Int) : List UInt8 := ns.flatMap fun n => dgT n ++ [32]
theorem sgT_snoc (l : List Int) (n : Int) : sgT (l ++ [n]) = (sgT l ++ dgT n) ++ [32] := by simp [sgT]
theorem sgT_app (l r : List Int) : sgT (l ++ r) = sgT l ++ sgT r := by simp [sgT]
theorem sgT_inj : ∀ {l r : List Int}, (∀ n ∈ l, 0 ≤ n) → (∀ n ∈ r, 0 ≤ n) → sgT l = sgT r → l = r
  | [], [], _, _, _ => rfl
  | [], q :: r, _, _, h => by
    have h9 := congrArg List.length h
    simp [sgT] at h9
  | p :: l, [], _, _, h => by
    have h9 := congrArg List.length h
    simp [sgT] at h9
  | p :: l, q :: r, hl, hr, h => by
    have e : dgT p ++ 32 :: sgT l = dgT q ++ 32 :: sgT r := by simpa [sgT] using h
    obtain ⟨h3, h4⟩ := cut_one 32 _ _ _ _ (fun b hb => (dgT_bytes _ b hb).2) (fun b hb => (dgT_bytes _ b hb).2) e
    have e1 := dgT_inj (hl p List.mem_cons_self) (hr q List.mem_cons_self) h3
    have e3 := sgT_inj (fun x hx => hl x (List.mem_cons_of_mem _ hx)) (fun x hx => hr x (List.mem_cons_of_mem _ hx)) h4
    rw [e3, e1]
theorem sgT_len {l : List Int} (h : ∀ n ∈ l, n ≤ 9999999999999) : (sgT l).length ≤ l.length * 14 := by
  induction l with
  | nil => simp [sgT]
  | cons p l ih =>
    have h1 := ih fun x hx => h x (List.mem_cons_of_mem _ hx)
    have h3 := dgT_len (h p List.mem_cons_self)
    have e : sgT (p :: l) = (dgT p ++ [32]) ++ sgT l := rfl
    rw [e, List.length_append, List.length_append]
    simp
    omega
theorem sgA_len (K : List Int) (l : List Ar) : (l.flatMap (sgA K)).length = l.length * 4 := by
 induction l with
 | nil => simp
 | cons a l ih => rw [List.flatMap_cons, List.length_append, ih]; simp [sgA]; omega
theorem sgA_eq {K : List Int} : ∀ {l r : List Ar}, l.flatMap (sgA K) = r.flatMap (sgA K) ↔ l.map (fun a => (a.1, a.2.1, a.2.2.1)) = r.map (fun a => (a.1, a.2.1, a.2.2.1)) ∧ ∀ i, i < l.length → el K (el l i).2.2.2.toNat = el K (el r i).2.2.2.toNat
  | [], [] => by simp
  | [], b :: r => by simp [sgA]
  | a :: l, [] => by simp [sgA]
  | a :: l, b :: r => by
    have ih := sgA_eq (K := K) (l := l) (r := r)
    rw [List.flatMap_cons, List.flatMap_cons, List.map_cons, List.map_cons]
    have e0 : ∀ (x : Ar) (k : List Ar), el (x :: k) 0 = x := fun x k => by simp [el]
    have eS : ∀ (x : Ar) (k : List Ar) i, el (x :: k) (i + 1) = el k i := fun x k i => by simp [el]
    constructor
    · intro h
      simp only [sgA, List.cons_append, List.nil_append, List.cons.injEq] at h
      obtain ⟨h1, h2, h3, h4, h5⟩ := h
      obtain ⟨g1, g2⟩ := ih.1 h5
      refine ⟨by rw [g1, h1, h2, h3], fun i hi => ?_⟩
      cases i with
      | zero => rw [e0, e0]; exact h4
      | succ i => rw [eS, eS]; exact g2 i (by simpa using hi)
    · rintro ⟨h1, h2⟩
      simp only [List.cons.injEq, Prod.mk.injEq] at h1
      obtain ⟨⟨k1, k2, k3⟩, k4⟩ := h1
      have g := ih.2 ⟨k4, fun i hi => by have h9 := h2 (i + 1) (by simpa using hi); rwa [eS, eS] at h9⟩
      have g0 := h2 0 (by simp)
      rw [e0, e0] at g0
      rw [g]
      simp only [sgA]
      rw [k1, k2, k3, g0]
theorem sgN_eq {K : List Int} {s t : St} : sgN K s = sgN K t ↔ difB s t = false ∧ ∀ i, i < s.2.length → el K (el s.2 i).2.2.2.toNat = el K (el t.2 i).2.2.2.toNat := by
 unfold sgN
 rw [List.cons.injEq, sgA_eq, dif_false, and_assoc]
structure Knd (l : List St) (K : List Int) (n : Nat) : Prop where
 len : K.length = l.length
 rng : ∀ q, q < l.length → ∃ j : Nat, el K q = (j : Int) ∧ j < n
 onto : ∀ j, j < n → ∃ q, q < l.length ∧ el K q = (j : Int)
 ali : ∀ q p, q < l.length → p < l.length → Alk l q p → el K q = el K p
 fine : ∀ q p, q < l.length → p < l.length → sgN K (el l q) = sgN K (el l p) → el K q = el K p
structure Nxt (l : List St) (K F : List Int) (n : Nat) : Prop where
 len : F.length = l.length
 rng : ∀ q, q < l.length → ∃ j : Nat, el F q = (j : Int) ∧ j < n
 onto : ∀ j, j < n → ∃ q, q < l.length ∧ el F q = (j : Int)
 iff : ∀ q p, q < l.length → p < l.length → (el F q = el F p ↔ sgN K (el l q) = sgN K (el l p))
section
variable {l : List St} {K F : List Int} {n k : Nat}
theorem knd_start (h : 0 < l.length) : Knd l (List.replicate l.length 0) 1 := by
 have e : ∀ q, q < l.length → el (List.replicate l.length (0 : Int)) q = 0 := fun q hq => by simp [el, hq]
 refine ⟨by simp, fun q hq => ⟨0, by rw [e q hq]; rfl, by omega⟩, fun j hj => ?_, fun q p hq hp _ => by rw [e q hq, e p hp], fun q p hq hp _ => by rw [e q hq, e p hp]⟩
 obtain rfl : j = 0 := by omega
 exact ⟨0, h, by rw [e 0 h]; rfl⟩
theorem Nxt.knd (hto : ∀ q, q < l.length → ∀ a ∈ (el l q).2, ∃ t : Nat, a.2.2.2 = (t : Int) ∧ t < l.length) (h : Knd l K n) (x : Nxt l K F k) : Knd l F k := by
 refine ⟨x.len, x.rng, x.onto, fun q p hq hp ha => ?_, fun q p hq hp hs => ?_⟩
 ·refine (x.iff q p hq hp).2 (sgN_eq.2 ⟨ha.dif, fun i hi => ?_⟩)
  obtain ⟨t, ht, htl⟩ := hto q hq _ (el_mem hi)
  obtain ⟨u, hu, hul⟩ := hto p hp _ (el_mem (by rw [← dif_len ha.dif]; exact hi))
  rw [ht, hu, Int.toNat_natCast, Int.toNat_natCast]
  exact h.ali t u htl hul (ha.arc hi ht hu)
 ·refine (x.iff q p hq hp).2 ?_
  obtain ⟨h1, h2⟩ := sgN_eq.1 hs
  refine sgN_eq.2 ⟨h1, fun i hi => ?_⟩
  have h3 := h2 i hi
  obtain ⟨t, ht, htl⟩ := hto q hq _ (el_mem hi)
  obtain ⟨u, hu, hul⟩ := hto p hp _ (el_mem (by rw [← dif_len h1]; exact hi))
  rw [ht, hu, Int.toNat_natCast, Int.toNat_natCast] at h3 ⊢
  exact h.fine t u htl hul ((x.iff t u htl hul).1 h3)
theorem Nxt.map (h : Knd l K n) (x : Nxt l K F k) : ∃ g : Nat → Nat, ∀ q, q < l.length → ∀ j : Nat, el F q = (j : Int) → el K q = (g j : Int) := by
 have : ∀ j : Nat, ∃ y : Nat, ∀ q, q < l.length → el F q = (j : Int) → el K q = (y : Int) := fun j => by
  by_cases e : ∃ p, p < l.length ∧ el F p = (j : Int)
  ·obtain ⟨p, hp, hpj⟩ := e
   obtain ⟨y, hy, _⟩ := h.rng p hp
   refine ⟨y, fun q hq hqj => ?_⟩
   rw [← hy]
   exact h.fine q p hq hp ((x.iff q p hq hp).1 (hqj.trans hpj.symm))
  ·exact ⟨0, fun q hq hqj => absurd ⟨q, hq, hqj⟩ e⟩
 obtain ⟨g, hg⟩ := Classical.axiomOfChoice this
 exact ⟨g, fun q hq j hj => hg j q hq hj⟩
theorem Nxt.more (h : Knd l K n) (x : Nxt l K F k) : n ≤ k ∧ (k = n → ∀ q p, q < l.length → p < l.length → el K q = el K p → el F q = el F p) := by
 obtain ⟨g, hg⟩ := x.map h
 have hon : ∀ j, j < n → ∃ i, i < k ∧ g i = j := fun j hj => by
  obtain ⟨q, hq, e⟩ := h.onto j hj
  obtain ⟨i, hi, hik⟩ := x.rng q hq
  have h9 := hg q hq i hi
  exact ⟨i, hik, by omega⟩
 have hle := nodup_few (L := List.range n) (U := (List.range k).map g) List.nodup_range (fun t ht => by
  obtain ⟨i, hi, e⟩ := hon t (List.mem_range.1 ht)
  exact List.mem_map.2 ⟨i, List.mem_range.2 hi, e⟩)
 simp only [List.length_range, List.length_map] at hle
 refine ⟨hle, fun hk q p hq hp e => ?_⟩
 obtain ⟨i, hi, hik⟩ := x.rng q hq
 obtain ⟨j, hj, hjk⟩ := x.rng p hp
 have e1 := hg q hq i hi
 have e2 := hg p hp j hj
 refine Classical.byContradiction fun hne => ?_
 have hij : i ≠ j := fun c => hne (by rw [hi, hj, c])
 have hgij : g i = g j := by omega
 have h2 := nodup_few (L := List.range n) (U := ((List.range k).erase i).map g) List.nodup_range (fun t ht => by
  obtain ⟨r, hr, er⟩ := hon t (List.mem_range.1 ht)
  by_cases c : r = i
  ·refine List.mem_map.2 ⟨j, (List.mem_erase_of_ne (Ne.symm hij)).2 (List.mem_range.2 hjk), ?_⟩
   rw [← hgij, ← c, er]
  ·exact List.mem_map.2 ⟨r, (List.mem_erase_of_ne c).2 (List.mem_range.2 hr), er⟩)
 rw [List.length_map, List.length_erase_of_mem (List.mem_range.2 hik)] at h2
 simp only [List.length_range] at h2
 omega
theorem Knd.few (h : Knd l K n) : n ≤ l.length := by
 have h2 := nodup_few (L := List.range n) (U := K.map Int.toNat) List.nodup_range (fun t ht => by
  obtain ⟨q, hq, e⟩ := h.onto t (List.mem_range.1 ht)
  refine List.mem_map.2 ⟨el K q, el_mem (by rw [h.len]; exact hq), by rw [e]; simp⟩)
 simpa [h.len] using h2
theorem Nxt.stop (hto : ∀ q, q < l.length → ∀ a ∈ (el l q).2, ∃ t : Nat, a.2.2.2 = (t : Int) ∧ t < l.length) (h : Knd l K n) (x : Nxt l K F n) : ∀ q p, q < l.length → p < l.length → (el K q = el K p ↔ Alk l q p) := by
  have hs : ∀ q p, q < l.length → p < l.length → el K q = el K p → sgN K (el l q) = sgN K (el l p) := fun q p hq hp e => (x.iff q p hq hp).1 ((x.more h).2 rfl q p hq hp e)
  intro q p hq hp
  refine ⟨fun e ha => ?_, h.ali q p hq hp⟩
  induction ha with
  | @now q p hd =>
    have h9 := (sgN_eq.1 (hs q p hq hp e)).1
    rw [hd] at h9
    cases h9
  | @step q p i t u hd hi ht hu _ ih =>
    have h9 := (sgN_eq.1 (hs q p hq hp e)).2 i hi
    obtain ⟨t', ht', htl⟩ := hto q hq _ (el_mem hi)
    obtain ⟨u', hu', hul⟩ := hto p hp _ (el_mem (by rw [← dif_len hd]; exact hi))
    have e1 : t = t' := by rw [ht] at ht'; omega
    have e2 : u = u' := by rw [hu] at hu'; omega
    subst e1 e2
    rw [ht, hu, Int.toNat_natCast, Int.toNat_natCast] at h9
    exact ih htl hul h9
end
structure KndI (l : List St) (K : List Int) (q : Nat) (ks : List (List UInt8)) (F : List Int) : Prop where
 nodup : ks.Nodup
 len : F.length = l.length
 few : ks.length ≤ q
 rng : ∀ p, p < q → ∃ j : Nat, el F p = (j : Int) ∧ j < ks.length ∧ el ks j = sgT (sgN K (el l p))
 onto : ∀ j, j < ks.length → ∃ p, p < q ∧ el F p = (j : Int)
section
variable {l : List St} {K F : List Int} {q : Nat} {ks : List (List UInt8)}
theorem KndI.init : KndI l K 0 [] (List.replicate l.length 0) := ⟨by simp, by simp, by simp, fun p hp => by omega, fun j hj => by simp at hj⟩
theorem el_setK {F : List Int} {q j : Nat} {x : Int} (h : q < F.length) : el (F.set q x) j = if q = j then x else el F j := by
 by_cases e : q = j
 ·subst e; rw [if_pos rfl]; simp [el, h]
 ·rw [if_neg e]; simp [el, List.getElem?_set_ne e]
theorem KndI.old (h : KndI l K q ks F) (hq : q < l.length) {j : Nat} (hj : j < ks.length) (e : el ks j = sgT (sgN K (el l q))) : KndI l K (q + 1) ks (F.set q (j : Int)) := by
 have hF := h.len
 refine ⟨h.nodup, by rw [List.length_set]; exact hF, by have := h.few; omega, fun p hp => ?_, fun i hi => ?_⟩
 ·rw [el_setK (by omega)]
  by_cases c : q = p
  ·subst c; rw [if_pos rfl]; exact ⟨j, rfl, hj, e⟩
  ·rw [if_neg c]; exact h.rng p (by omega)
 ·obtain ⟨p, hp, hpi⟩ := h.onto i hi
  exact ⟨p, by omega, by rw [el_setK (by omega), if_neg (by omega)]; exact hpi⟩
theorem KndI.new (h : KndI l K q ks F) (hq : q < l.length) (e : sgT (sgN K (el l q)) ∉ ks) : KndI l K (q + 1) (ks ++ [sgT (sgN K (el l q))]) (F.set q (ks.length : Int)) := by
 have hF := h.len
 refine ⟨?_, by rw [List.length_set]; exact hF, by have := h.few; simp; omega, fun p hp => ?_, fun i hi => ?_⟩
 ·rw [List.nodup_append]
  refine ⟨h.nodup, by simp, fun x hx y hy c => ?_⟩
  rw [List.mem_singleton] at hy
  exact e (by rw [← hy, ← c]; exact hx)
 ·rw [el_setK (by omega)]
  by_cases c : q = p
  ·subst c; rw [if_pos rfl]; exact ⟨ks.length, rfl, by simp, el_last _ _⟩
  ·rw [if_neg c]
   obtain ⟨j, h1, h2, h3⟩ := h.rng p (by omega)
   exact ⟨j, h1, by simp; omega, by rw [el_left h2]; exact h3⟩
 ·rw [List.length_append] at hi
  simp at hi
  by_cases c : i < ks.length
  ·obtain ⟨p, hp, hpi⟩ := h.onto i c
   exact ⟨p, by omega, by rw [el_setK (by omega), if_neg (by omega)]; exact hpi⟩
  ·obtain rfl : i = ks.length := by omega
   exact ⟨q, by omega, by rw [el_setK (by omega), if_pos rfl]⟩
theorem KndI.done (h : KndI l K l.length ks F) (hpos : ∀ q, q < l.length → ∀ n ∈ sgN K (el l q), 0 ≤ n) : Nxt l K F ks.length := by
 refine ⟨h.len, fun q hq => ?_, h.onto, fun q p hq hp => ?_⟩
 ·obtain ⟨j, h1, h2, _⟩ := h.rng q hq
  exact ⟨j, h1, h2⟩
 ·obtain ⟨i, h1, h2, h3⟩ := h.rng q hq
  obtain ⟨j, k1, k2, k3⟩ := h.rng p hp
  constructor
  ·intro e
   have : i = j := by rw [h1, k1] at e; omega
   subst this
   exact sgT_inj (hpos q hq) (hpos p hp) (h3.symm.trans k3)
  ·intro e
   have hx := idxG_el h.nodup h2
   have hy := idxG_el h.nodup k2
   rw [h3, e, ← k3] at hx
   rw [h1, k1]
   have : i = j := by rw [← hx, hy]
   rw [this]
end
end Go.Proofs.YtfhjncpakgailaaGreatDoor.Pl
