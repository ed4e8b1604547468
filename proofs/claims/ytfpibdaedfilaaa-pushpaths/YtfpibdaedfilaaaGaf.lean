/- What trimming leaves: it is right, all of it lies on paths, trimmed again it stays (no program in sight). -/
import Derived.Test.YtfpibdaedfilaaaGae
import Derived.Test.YtfpibdaedfilaaaGad
import Derived.Test.YtfpibdaedfilaaaGaa
import Derived.Test.YtfpibdaedfilaaaGab
import Derived.Deep.QuietTactic
import Derived.BigQuiet
import Derived.RegionTactic
import Derived.BigRegion
import Derived.Deep.MidRow
namespace Go.Proofs.Ytfpibdaedfilaaa.Pl
section
variable {z : Int} {l : List St} {aa bs : List Bool}
theorem trim_back (hf : faultM (z, l) = 0) (hA : Least (AheadC z l) l.length aa) (hB : Least (BackC l) l.length bs) (T : Nat → Prop) (hT : BackC ((keptL aa bs l.length).map (trimS l (keptL aa bs l.length))) T) :
  ∀ i, i < (keptL aa bs l.length).length → T i := by
 have hp := keptL_sorted aa bs l.length
 have hk : ∀ q, q < l.length → el aa q = true → el bs q = true → ∃ i : Nat, i < (keptL aa bs l.length).length ∧ el (keptL aa bs l.length) i = (q : Int) ∧ placeI (keptL aa bs l.length) (q : Int) = (i : Int) := fun q hq h1 h2 => placeI_mem hp (keptL_iff.2 ⟨hq, h1, h2⟩)
 have key : ∀ q, q < l.length → el bs q = true → (el bs q = true ∧ (el aa q = true → T (placeI (keptL aa bs l.length) (q : Int)).toNat)) := by
  refine hB.2.2 (fun q => el bs q = true ∧ (el aa q = true → T (placeI (keptL aa bs l.length) (q : Int)).toNat)) ⟨?_, ?_⟩
  ·intro q hq hz
   have h1 := hB.2.1.1 q hq hz
   refine ⟨h1, fun h2 => ?_⟩
   obtain ⟨i, hi, hei, e⟩ := hk q hq h2 h1
   rw [e]
   refine hT.1 _ (by simpa using hi) ?_
   rw [Int.toNat_natCast, trim_el hi, hei]
   simpa using hz
  ·intro q hq d hd h9
   obtain ⟨t, ht, htn⟩ := to_right hf hq hd
   rw [ht] at h9
   simp only [Int.toNat_natCast] at h9
   have h1 : el bs q = true := hB.2.1.2 q hq d hd (by rw [ht]; simpa using h9.1)
   refine ⟨h1, fun h2 => ?_⟩
   have h3 : el aa t = true := by have := hA.2.1.2 q hq h2 d hd; rw [ht] at this; simpa using this
   obtain ⟨i, hi, hei, e⟩ := hk q hq h2 h1
   obtain ⟨j, hj, hej, e2⟩ := hk t htn h3 h9.1
   have h4 := h9.2 h3
   rw [e2] at h4
   rw [e]
   refine hT.2 i (by simpa using hi) (turnA (keptL aa bs l.length) d) (by
    rw [trim_el hi, hei]
    simp only [Int.toNat_natCast]
    exact trimA_in hd (by rw [ht, e2]; omega)) ?_
   simp only [turnA]
   rw [ht, e2]
   exact h4
 intro i hi
 obtain ⟨q, hq, hqn, h1, h2⟩ := keptL_mem (el_mem hi)
 have h3 := (key q hqn h2).2 h1
 rw [← hq, placeI_el hp hi] at h3
 simpa using h3
theorem arcN_cons (s : St) (l : List St) : arcN (s :: l) = s.2.length + arcN l := rfl
theorem trim_arcs (ks : List Int) (n : Nat) (hn : n ≤ l.length) : arcN ((keptL aa bs n).map (trimS l ks)) ≤ arcN (l.take n) := by
  induction n with
  | zero => simp [keptL, arcN]
  | succ n ih =>
    rw [keptL_succ, List.map_append, arcN_append, arcN_take (by omega)]
    have := ih (by omega)
    split
    · have h9 := trimA_le ks (el l n).2
      simp only [List.map_cons, List.map_nil, arcN_cons, arcN, trimS, Int.toNat_natCast]
      omega
    · simp only [List.map_nil, arcN]
      omega
theorem trim_fault (hf : faultM (z, l) = 0) : faultM (trimM z l (keptL aa bs l.length)) = 0 := by
 have hp := keptL_sorted aa bs l.length
 have hle := keptL_le aa bs l.length
 have hsz := right_size hf
 have har := trim_arcs (l := l) (aa := aa) (bs := bs) (keptL aa bs l.length) l.length (Nat.le_refl _)
 rw [List.take_length] at har
 have hpl : ∀ x, -1 ≤ placeI (keptL aa bs l.length) x ∧ placeI (keptL aa bs l.length) x ≤ ((keptL aa bs l.length).length : Int) - 1 := fun x => by
  by_cases e : x ∈ keptL aa bs l.length
  ·obtain ⟨i, hi, _, h⟩ := placeI_mem hp e
   rw [h]; omega
  ·rw [placeI_not e]; omega
 refine faultM_ok ?_ ?_
 ·simp only [sizeB, trimM, Bool.and_eq_true, List.length_map]
  exact ⟨decide_eq_true (by omega), decide_eq_true (by omega)⟩
 ·simp only [rangeB, trimM, Bool.and_eq_true, List.length_map, List.all_eq_true]
  refine ⟨by simp only [inB, Bool.and_eq_true, decide_eq_true_eq]; exact hpl z, fun s hs => ?_⟩
  obtain ⟨x, hx, rfl⟩ := List.mem_map.1 hs
  obtain ⟨q, rfl, hq, _, _⟩ := keptL_mem hx
  have h1 := right_st hf hq
  simp only [stB, trimS, Bool.and_eq_true, List.all_eq_true, Int.toNat_natCast]
  refine ⟨h1.1, fun c hc => ?_⟩
  obtain ⟨d, hd, rfl, h0⟩ := trimA_mem hc
  have h2 := List.all_eq_true.1 h1.2 d hd
  have h3 := hpl d.2.2.2
  simp only [arcB, inB, Bool.and_eq_true, decide_eq_true_eq] at h2
  simp only [arcB, turnA, inB, Bool.and_eq_true]
  exact ⟨⟨⟨⟨decide_eq_true (by omega), decide_eq_true (by omega)⟩, ⟨decide_eq_true (by omega), decide_eq_true (by omega)⟩⟩, ⟨decide_eq_true (by omega), decide_eq_true (by omega)⟩⟩, ⟨decide_eq_true h0, decide_eq_true h3.2⟩⟩
theorem trim_ok (hm : okM (z, l)) : okM (trimM z l (keptL aa bs l.length)) := by
 have hle := keptL_le aa bs l.length
 have h1 := hm.1
 have h2 := hm.2
 refine ⟨by simp only [trimM, List.length_map] at h1 ⊢; omega, fun j hj => ?_⟩
 simp only [trimM, List.length_map] at hj ⊢
 rw [trim_el hj]
 obtain ⟨q, e, hq, _, _⟩ := keptL_mem (el_mem hj)
 rw [e]
 have := trimA_le (keptL aa bs l.length) (el l q).2
 have := h2 q hq
 simp only [Int.toNat_natCast] at this ⊢
 omega
theorem all_least {C : (Nat → Prop) → Prop} {n : Nat} (hC : C (fun q => q < n)) (h : ∀ T, C T → ∀ i, i < n → T i) : Least C n (List.replicate n true) :=
 ⟨by simp, by
  have : (fun q => el (List.replicate n true) q = true) = fun q => q < n := by funext q; rw [el_true]
  rw [this]; exact hC, fun T hT q hq _ => h T hT q hq⟩
theorem trim_to (hf : faultM (z, l) = 0) {i : Nat} (hi : i < (keptL aa bs l.length).length) {c : Ar} (hc : c ∈ (el ((keptL aa bs l.length).map (trimS l (keptL aa bs l.length))) i).2) : ∃ t : Nat, c.2.2.2 = (t : Int) ∧ t < (keptL aa bs l.length).length := by
 have h := to_right (trim_fault (aa := aa) (bs := bs) hf) (q := i) (by simpa [trimM] using hi) (d := c) (by simpa [trimM] using hc)
 simpa using h
theorem trim_all_ahead (hf : faultM (z, l) = 0) (hA : Least (AheadC z l) l.length aa) (hB : Least (BackC l) l.length bs) :
  Least (AheadC (placeI (keptL aa bs l.length) z) ((keptL aa bs l.length).map (trimS l (keptL aa bs l.length)))) (keptL aa bs l.length).length (List.replicate (keptL aa bs l.length).length true) := by
 refine all_least ⟨fun q hq _ => by simpa using hq, fun q hq h c hc => ?_⟩ (trim_ahead hf hA hB)
 obtain ⟨t, h1, h2⟩ := trim_to hf (by simpa using hq) hc
 rw [h1]; simpa using h2
theorem trim_all_back (hf : faultM (z, l) = 0) (hA : Least (AheadC z l) l.length aa) (hB : Least (BackC l) l.length bs) :
  Least (BackC ((keptL aa bs l.length).map (trimS l (keptL aa bs l.length)))) (keptL aa bs l.length).length (List.replicate (keptL aa bs l.length).length true) := by
 refine all_least ⟨fun q hq _ => by simpa using hq, fun q hq c hc _ => by simpa using hq⟩ (trim_back hf hA hB)
theorem kept_all (n : Nat) : keptL (List.replicate n true) (List.replicate n true) n = (List.range n).map fun q : Nat => (q : Int) := by
 unfold keptL
 congr 1
 rw [List.filter_eq_self]
 intro q hq
 have := el_true.2 (List.mem_range.1 hq)
 simp [this]
theorem place_all {n : Nat} {x : Int} (h1 : -1 ≤ x) (h2 : x < n) : placeI ((List.range n).map fun q : Nat => (q : Int)) x = x := by
 have hp : ((List.range n).map fun q : Nat => (q : Int)).Pairwise (· < ·) := by
  have := keptL_sorted (List.replicate n true) (List.replicate n true) n
  rwa [kept_all] at this
 by_cases e : 0 ≤ x
 ·have h3 : x.toNat < n := by omega
  have := placeI_el hp (i := x.toNat) (by simpa using h3)
  rw [el_range_map (fun q : Nat => (q : Int)) h3] at this
  rw [show ((x.toNat : Nat) : Int) = x by omega] at this
  exact this
 ·rw [placeI_not (by intro h; obtain ⟨q, _, h9⟩ := List.mem_map.1 h; omega)]
  omega
theorem trimA_all {n : Nat} {ar : List Ar} (h : ∀ a ∈ ar, ∃ t : Nat, a.2.2.2 = (t : Int) ∧ t < n) : trimA ((List.range n).map fun q : Nat => (q : Int)) ar = ar := by
 unfold trimA
 have : ar.map (turnA ((List.range n).map fun q : Nat => (q : Int))) = ar := by
  conv => rhs; rw [← List.map_id ar]
  refine List.map_congr_left fun a ha => ?_
  obtain ⟨t, h1, h2⟩ := h a ha
  unfold turnA
  rw [h1, place_all (by omega) (by omega), ← h1]
  rfl
 rw [this, List.filter_eq_self]
 intro a ha
 obtain ⟨t, h1, h2⟩ := h a ha
 simp [h1]
theorem trim_all (hf : faultM (z, l) = 0) : trimM z l (keptL (List.replicate l.length true) (List.replicate l.length true) l.length) = (z, l) := by
 rw [kept_all]
 unfold trimM
 have hz := (faultM_zero hf).2
 simp only [rangeB, Bool.and_eq_true, inB, decide_eq_true_eq] at hz
 rw [place_all (by omega) (by omega)]
 congr 1
 apply el_ext (by simp)
 intro j hj
 have hj' : j < l.length := by simpa using hj
 rw [el_map (by simpa using hj'), el_range_map (fun q : Nat => (q : Int)) hj']
 unfold trimS
 rw [Int.toNat_natCast, trimA_all (fun a ha => to_right hf hj' ha)]
theorem trim_start (hA : Least (AheadC z l) l.length aa) (hB : Least (BackC l) l.length bs) : placeI (keptL aa bs l.length) z < 0 ↔ (keptL aa bs l.length).length = 0 := by
 have hp := keptL_sorted aa bs l.length
 constructor
 ·intro h
  have hz : z ∉ keptL aa bs l.length := fun h9 => by have := (placeI_nonneg hp).2 h9; omega
  by_cases e : (keptL aa bs l.length).length = 0
  ·exact e
  ·obtain ⟨q, hq, hqn, h1, h2⟩ := keptL_mem (el_mem (l := keptL aa bs l.length) (j := 0) (by omega))
   have key := hA.2.2 (fun q => el aa q = true ∧ ¬ el bs q = true) ⟨fun q hq h9 => ?_, fun q hq h9 d hd => ?_⟩ q hqn h1
   ·exact absurd h2 key.2
   ·have h3 := hA.2.1.1 q hq h9
    exact ⟨h3, fun h4 => hz (by rw [← h9]; exact keptL_iff.2 ⟨hq, h3, h4⟩)⟩
   ·exact ⟨hA.2.1.2 q hq h9.1 d hd, fun h4 => h9.2 (hB.2.1.2 q hq d hd h4)⟩
 ·intro h
  have : keptL aa bs l.length = [] := List.eq_nil_of_length_eq_zero h
  rw [this, placeI_not (by simp)]
  omega
end
end Go.Proofs.Ytfpibdaedfilaaa.Pl
namespace Go.Proofs.Ytfpibdaedfilaaa.Pl
set_option linter.unusedVariables false
set_option linter.unusedSimpArgs false
theorem pathAns_of {m : Mc} (fw : Fwd m.2) (hz : m.1 = 0) (hl : 0 < m.2.length) {F : Nat → Nat} (hF : CntEq m.2 F) (hb : F 0 ≤ 1000000000) {x ec : Int} (h : PathAns m 0 x ec) : ec = 0 ∧ x = (F 0 : Int) := by
 unfold PathAns at h
 rw [if_pos rfl] at h
 rcases h with ⟨out, ho, he⟩ | ⟨hc, _⟩
 ·have e1 := cnt_one ho fw.to (ho.cnt fw.to) hF 0 hl
  rw [hz] at he
  simp only [Int.toNat_zero, e1, pathA] at he
  rw [if_neg (by omega), if_neg (by omega)] at he
  simp only [Prod.mk.injEq] at he
  exact ⟨he.2.symm, he.1.symm⟩
 ·exact absurd hc fw.order.noCycle
structure Slim (m : Mc) : Prop where
 fwd : Fwd m.2
 start : m.1 = 0
 pos : 0 < m.2.length
 six : m.2.length ≤ 6
 four : ∀ q, q < m.2.length → (el m.2 q).2.length ≤ 4
theorem Slim.cnt {m : Mc} (h : Slim m) : ∃ F, CntEq m.2 F ∧ F 0 ≤ 15625 := by
 refine ⟨_, h.fwd.order.cnt h.fwd.to, ?_⟩
 have := cnt_bound h.fwd (h.fwd.order.cnt h.fwd.to) h.four 6 0 h.pos (by have := h.six; omega)
 simpa using this
section
variable {a : Mc} {F : Nat → Nat} {aa bs : List Bool}
end
end Go.Proofs.Ytfpibdaedfilaaa.Pl
namespace Go.Proofs.Ytfpibdaedfilaaa.Wt
open Go.ChangeShapes Go.WideShapes Go.ChangeAt Go.RowKit
open Go.Proofs.Ytfpibdaedfilaaa.Pl
set_option linter.unusedVariables false
theorem made_fourK (r : Rw) (n : Nat) (full : Bool) {q : Nat} (hq : q < (madeM r n full).2.length) : (el (madeM r n full).2 q).2.length ≤ 4 := by
 unfold madeM at hq ⊢
 simp only [statesM_length] at hq ⊢
 unfold statesM
 rw [el_range_map _ hq]
 split
 ·simp
 ·simp [Pl.stM]; omega
theorem slim6 (r : Rw) : faultM (fwdM (madeM r 6 false)) = 0 ∧ Slim (fwdM (madeM r 6 false)) := by
 have hlen : (madeM r 6 false).2.length = sizeM r 6 := statesM_length _ _ _
 have hn : 0 < (madeM r 6 false).2.length ∧ (madeM r 6 false).2.length ≤ 6 := by rw [hlen]; unfold sizeM; omega
 have hfM := madeM_right r 6 (by omega) (by omega) false
 refine ⟨fwdM_fault hfM hn.1, ⟨?_, rfl, by rw [fwdM_length]; exact hn.1, by rw [fwdM_length]; exact hn.2, fun q hq => ?_⟩⟩
 ·intro q hq a ha
  rw [fwdM_length] at hq
  rw [fwdM_el _ hq] at ha
  obtain ⟨b, _, rfl, h1⟩ := fwdR_mem ha
  obtain ⟨t, h2, h3, h4⟩ := fwdA_to h1 b
  exact ⟨t, h2, h3, by rw [fwdM_length]; exact h4⟩
 ·rw [fwdM_length] at hq
  rw [fwdM_el _ hq]
  exact Nat.le_trans (fwdR_le _ _ _) (made_fourK r 6 false hq)
end Go.Proofs.Ytfpibdaedfilaaa.Wt
namespace Go.Proofs.Ytfpibdaedfilaaa.Pl
def swpW (l : List Ar) (i j : Nat) : List Ar := (l.set i (el l j)).set j (el l i)
theorem swpW_length (l : List Ar) (i j : Nat) : (swpW l i j).length = l.length := by simp [swpW]
theorem el_setW {l : List Ar} {q j : Nat} (hq : q < l.length) (x : Ar) : el (l.set q x) j = if j = q then x else el l j := by
 by_cases h : j = q
 ·subst h; rw [if_pos rfl, el_get (by simpa using hq)]; simp
 ·rw [if_neg h]; simp [el, List.getElem?_set_ne (Ne.symm h)]
theorem el_swpW {l : List Ar} {i j : Nat} (hi : i < l.length) (hj : j < l.length) (k : Nat) : el (swpW l i j) k = if k = j then el l i else if k = i then el l j else el l k := by
 unfold swpW
 rw [el_setW (by simpa using hj), el_setW hi]
theorem swpW_perm {l : List Ar} {i j : Nat} (hi : i < l.length) (hj : j < l.length) : (swpW l i j).Perm l := by
 have h := Array.swap_perm (xs := l.toArray) (i := i) (j := j) (by simpa using hi) (by simpa using hj)
 rw [Array.perm_iff_toList_perm] at h
 have e : (l.toArray.swap i j (by simpa using hi) (by simpa using hj)).toList = swpW l i j := by
  unfold swpW
  rw [el_get hi, el_get hj]
  simp [Array.swap]
 rw [e] at h
 exact h
theorem swpW_drop {l : List Ar} {i j n : Nat} (hi : i < n) (hj : j < n) : (swpW l i j).drop n = l.drop n := by
 unfold swpW
 rw [List.drop_set_of_lt (by omega), List.drop_set_of_lt (by omega)]
def HeapW (l : List Ar) (n : Nat) : Prop := ∀ k, 0 < k → k < n → (el l ((k - 1) / 2)).2.2.2 ≤ (el l k).2.2.2
theorem HeapW.nil : HeapW [] 0 := fun _ _ h => absurd h (Nat.not_lt_zero _)
theorem HeapW.root {l : List Ar} {n : Nat} (h : HeapW l n) : ∀ k, k < n → (el l 0).2.2.2 ≤ (el l k).2.2.2 := by
  intro k
  induction k using Nat.strongRecOn with
  | ind k ih =>
    intro hk
    by_cases e : k = 0
    · subst e; exact Int.le_refl _
    · have h1 := h k (by omega) hk
      have h2 := ih ((k - 1) / 2) (by omega) (by omega)
      omega
def UpW (l : List Ar) (j : Nat) : Prop := ∀ k, 0 < k → k < l.length → (k ≠ j → (el l ((k - 1) / 2)).2.2.2 ≤ (el l k).2.2.2) ∧ (0 < j → (k - 1) / 2 = j → (el l ((j - 1) / 2)).2.2.2 ≤ (el l k).2.2.2)
theorem UpW.start {l : List Ar} (h : HeapW l l.length) (x : Ar) : UpW (l ++ [x]) l.length := by
 intro k h0 hk
 have hk' : k < l.length + 1 := by simpa using hk
 constructor
 ·intro hne
  rw [el_left (by omega), el_left (by omega)]
  exact h k h0 (by omega)
 ·intro h1 h2; omega
theorem UpW.swap {l : List Ar} {j : Nat} (h : UpW l j) (h0 : 0 < j) (hj : j < l.length) (hlt : (el l j).2.2.2 < (el l ((j - 1) / 2)).2.2.2) : UpW (swpW l ((j - 1) / 2) j) ((j - 1) / 2) := by
 generalize hi : (j - 1) / 2 = i at *
 have hij : i < j := by omega
 intro k hk0 hk
 rw [swpW_length] at hk
 have hjj := h j h0 hj
 have hkk := h k hk0 hk
 have e := fun p => el_swpW (l := l) (i := i) (j := j) (by omega) hj p
 constructor
 ·intro hki
  rw [e k, if_neg hki, e ((k - 1) / 2)]
  by_cases c1 : k = j
  ·subst c1
   rw [if_pos rfl, hi, if_neg (by omega), if_pos rfl]
   omega
  ·rw [if_neg c1]
   have h1 := hkk.1 c1
   by_cases c2 : (k - 1) / 2 = j
   ·rw [if_pos c2]
    have := hkk.2 h0 c2
    rw [hi] at this
    exact this
   ·rw [if_neg c2]
    by_cases c3 : (k - 1) / 2 = i
    ·rw [if_pos c3]
     rw [c3] at h1
     omega
    ·rw [if_neg c3]; exact h1
 ·intro hi0 hki
  have hpi : (i - 1) / 2 < i := by omega
  rw [e ((i - 1) / 2), if_neg (by omega), if_neg (by omega), e k]
  have h1 := (h i hi0 (by omega)).1 (by omega)
  by_cases c1 : k = j
  ·rw [if_pos c1]; exact h1
  ·rw [if_neg c1, if_neg (by omega)]
   have h2 := hkk.1 c1
   rw [hki] at h2
   omega
theorem UpW.top {l : List Ar} (h : UpW l 0) : HeapW l l.length := fun k h0 hk => (h k h0 hk).1 (by omega)
theorem UpW.stop {l : List Ar} {j : Nat} (h : UpW l j) (hle : ¬ (el l j).2.2.2 < (el l ((j - 1) / 2)).2.2.2) : HeapW l l.length := by
 intro k h0 hk
 by_cases c : k = j
 ·subst c; omega
 ·exact (h k h0 hk).1 c
def DownW (l : List Ar) (i n : Nat) : Prop := ∀ k, 0 < k → k < n → ((k - 1) / 2 ≠ i → (el l ((k - 1) / 2)).2.2.2 ≤ (el l k).2.2.2) ∧ (0 < i → (k - 1) / 2 = i → (el l ((i - 1) / 2)).2.2.2 ≤ (el l k).2.2.2)
theorem DownW.start {l : List Ar} {n : Nat} (h : HeapW l l.length) (hn : l.length = n + 1) : DownW (swpW l 0 n) 0 n := by
 intro k h0 hk
 have e := fun p => el_swpW (l := l) (i := 0) (j := n) (by omega) (by omega) p
 constructor
 ·intro hne
  rw [e, e k, if_neg (by omega), if_neg (by omega), if_neg (by omega), if_neg (by omega)]
  exact h k h0 (by omega)
 ·intro h1; omega
def LowW (l : List Ar) (i n c : Nat) : Prop := c < n ∧ 0 < c ∧ (c - 1) / 2 = i ∧ ∀ k, 0 < k → k < n → (k - 1) / 2 = i → (el l c).2.2.2 ≤ (el l k).2.2.2
theorem LowW.left {l : List Ar} {i n : Nat} (h1 : 2 * i + 1 < n) (h2 : 2 * i + 1 + 1 < n → ¬ (el l (2 * i + 1 + 1)).2.2.2 < (el l (2 * i + 1)).2.2.2) : LowW l i n (2 * i + 1) := by
 refine ⟨h1, by omega, by omega, fun k k0 hk hp => ?_⟩
 have : k = 2 * i + 1 ∨ k = 2 * i + 1 + 1 := by omega
 rcases this with rfl | rfl
 ·exact Int.le_refl _
 ·have := h2 hk; omega
theorem LowW.right {l : List Ar} {i n : Nat} (h1 : 2 * i + 1 + 1 < n) (h2 : (el l (2 * i + 1 + 1)).2.2.2 < (el l (2 * i + 1)).2.2.2) : LowW l i n (2 * i + 1 + 1) := by
 refine ⟨h1, by omega, by omega, fun k k0 hk hp => ?_⟩
 have : k = 2 * i + 1 ∨ k = 2 * i + 1 + 1 := by omega
 rcases this with rfl | rfl
 ·omega
 ·exact Int.le_refl _
theorem DownW.swap {l : List Ar} {i n c : Nat} (h : DownW l i n) (hn : n ≤ l.length) (hc : LowW l i n c) (hlt : (el l c).2.2.2 < (el l i).2.2.2) : DownW (swpW l i c) c n := by
 obtain ⟨hcn, hc0, hci, hmin⟩ := hc
 have hic : i < c := by omega
 intro k hk0 hk
 have e := fun p => el_swpW (l := l) (i := i) (j := c) (by omega) (by omega) p
 constructor
 ·intro hkc
  rw [e ((k - 1) / 2), if_neg hkc, e k]
  by_cases c3 : (k - 1) / 2 = i
  ·rw [if_pos c3]
   by_cases c1 : k = c
   ·rw [if_pos c1]; omega
   ·rw [if_neg c1, if_neg (by omega)]
    exact hmin k hk0 hk c3
  ·rw [if_neg c3]
   have h1 := (h k hk0 hk).1 c3
   by_cases c1 : k = c
   ·subst c1; exact absurd hci c3
   ·rw [if_neg c1]
    by_cases c2 : k = i
    ·subst c2
     rw [if_pos rfl]
     exact (h c hc0 hcn).2 hk0 hci
    ·rw [if_neg c2]; exact h1
 ·intro _ hkc
  rw [hci, e i, if_neg (by omega), if_pos rfl, e k, if_neg (by omega), if_neg (by omega)]
  have h1 := (h k hk0 hk).1 (by omega)
  rw [hkc] at h1
  exact h1
theorem DownW.leaf {l : List Ar} {i n : Nat} (h : DownW l i n) (hl : n ≤ 2 * i + 1) : HeapW l n := fun k h0 hk => (h k h0 hk).1 (by omega)
theorem DownW.stop {l : List Ar} {i n c : Nat} (h : DownW l i n) (hc : LowW l i n c) (hle : ¬ (el l c).2.2.2 < (el l i).2.2.2) : HeapW l n := by
 intro k h0 hk
 by_cases e : (k - 1) / 2 = i
 ·have := hc.2.2.2 k h0 hk e
  rw [e]; omega
 ·exact (h k h0 hk).1 e
theorem popW_facts {l m : List Ar} {n : Nat} (h : HeapW l l.length) (hn : l.length = n + 1) (hp : m.Perm (swpW l 0 n)) (hd : m.drop n = (swpW l 0 n).drop n) (hm : HeapW m n) :
  el m n = el l 0 ∧ HeapW (m.take n) n ∧ (el l 0 :: m.take n).Perm l ∧ ∀ y ∈ m.take n, (el l 0).2.2.2 ≤ y.2.2.2 := by
 have hml : m.length = n + 1 := by rw [hp.length_eq, swpW_length, hn]
 have h1 : el m n = el l 0 := by
  have e1 : el (m.drop n) 0 = el m n := by simp [el]
  have e2 : el ((swpW l 0 n).drop n) 0 = el (swpW l 0 n) n := by simp [el]
  rw [← e1, hd, e2, el_swpW (by omega) (by omega), if_pos rfl]
 have h2 : m = m.take n ++ [el l 0] := by
  have := take_el (l := m) (k := n) (by omega)
  rw [List.take_of_length_le (by omega), h1] at this
  exact this
 have h3 : (el l 0 :: m.take n).Perm l := by
  have h4 : m.Perm l := hp.trans (swpW_perm (by omega) (by omega))
  rw [h2] at h4
  exact (List.perm_append_singleton _ _).symm.trans h4
 refine ⟨h1, ?_, h3, fun y hy => ?_⟩
 ·intro k h0 hk
  rw [el_take (by omega), el_take hk]
  exact hm k h0 hk
 ·have : y ∈ l := h3.mem_iff.1 (List.mem_cons_of_mem _ hy)
  obtain ⟨k, hk, rfl⟩ := mem_el this
  exact h.root k hk
end Go.Proofs.Ytfpibdaedfilaaa.Pl
namespace Go.Proofs.Ytfpibdaedfilaaa.Dw
open Go.ChangeShapes Go.WideShapes Go.ChangeAt Go.RowKit
open Go.Proofs.Ytfpibdaedfilaaa.Pl Go.Proofs.Ytfpibdaedfilaaa.Wt
set_option linter.unusedVariables false
set_option linter.unusedSimpArgs false
theorem load_wait (B : Nat) (w : World) {v : Value} (h : w.cell? ⟨B, 0, none⟩ = some v) : (loadVar 117 ⟨B, 0, none⟩).run Try.prog w = .ok v w := by
 simp [loadVar, isAgg, underlying, Try.underlying117, h, Result.andThen]
theorem methW_push (B : Nat) (w : World) : Sem.run Try.prog (method 287 121 (.pointer (some ⟨B, 0, none⟩)) "Push") w = .ok (120, .pointer (some ⟨B, 0, none⟩)) w := by kernel_rfl
theorem methW_pop (B : Nat) (w : World) : Sem.run Try.prog (method 287 121 (.pointer (some ⟨B, 0, none⟩)) "Pop") w = .ok (119, .pointer (some ⟨B, 0, none⟩)) w := by kernel_rfl
theorem methW_len0 (B : Nat) (w : World) : Sem.run Try.prog (method 287 121 (.pointer (some ⟨B, 0, none⟩)) "Len") w = Sem.run Try.prog (do let v ← loadVar 117 ⟨B, 0, none⟩; pure (71, v)) w := by kernel_rfl
theorem methW_less0 (B : Nat) (w : World) : Sem.run Try.prog (method 287 121 (.pointer (some ⟨B, 0, none⟩)) "Less") w = Sem.run Try.prog (do let v ← loadVar 117 ⟨B, 0, none⟩; pure (117, v)) w := by kernel_rfl
theorem methW_swap0 (B : Nat) (w : World) : Sem.run Try.prog (method 287 121 (.pointer (some ⟨B, 0, none⟩)) "Swap") w = Sem.run Try.prog (do let v ← loadVar 117 ⟨B, 0, none⟩; pure (118, v)) w := by kernel_rfl
theorem methW_len {B : Nat} {w : World} {v : Value} (h : w.cell? ⟨B, 0, none⟩ = some v) : Sem.run Try.prog (method 287 121 (.pointer (some ⟨B, 0, none⟩)) "Len") w = .ok (71, v) w := by
 rw [methW_len0]; simp [load_wait B w h, Sem.run_bind]
theorem methW_less {B : Nat} {w : World} {v : Value} (h : w.cell? ⟨B, 0, none⟩ = some v) : Sem.run Try.prog (method 287 121 (.pointer (some ⟨B, 0, none⟩)) "Less") w = .ok (117, v) w := by
 rw [methW_less0]; simp [load_wait B w h, Sem.run_bind]
theorem methW_swap {B : Nat} {w : World} {v : Value} (h : w.cell? ⟨B, 0, none⟩ = some v) : Sem.run Try.prog (method 287 121 (.pointer (some ⟨B, 0, none⟩)) "Swap") w = .ok (118, v) w := by
 rw [methW_swap0]; simp [load_wait B w h, Sem.run_bind]
def encD (a : Ar) : List Value := [.int .i64 a.1, .int .i64 a.2.2.2]
theorem encD_len (a : Ar) : (encD a).length = 2 := rfl
theorem encD_one (a : Ar) : ∀ u ∈ encD a, u.oneCell' = true := by
 intro u hu
 simp [encD] at hu
 rcases hu with rfl | rfl <;> rfl
def TwoW (w : World) (b o : Nat) (a : Ar) : Prop := w.cell? ⟨b, o, none⟩ = some (.int .i64 a.1) ∧ w.cell? ⟨b, o + 1, none⟩ = some (.int .i64 a.2.2.2)
theorem own_two {w : World} {base : Nat} {e : TypeId} {g n cap j : Nat} {ws : List Ar} (h : w.ownsRow base e 2 (.slice (some ⟨g, 0, none⟩) n cap) n (ws.flatMap encD)) (hj : j < ws.length) : TwoW w g (j * 2) (el ws j) := by
 have hc : ∀ i u, i < 2 → (encD (el ws j))[i]? = some u → w.cell? ⟨g, j * 2 + i, none⟩ = some u := fun i u hi hu => by
  have := h.cells (g := g) rfl (j * 2 + i) u ((flat_at encD_len ws j hj i hi).trans hu)
  rw [Addr.add_lit, Nat.zero_add] at this
  exact this
 exact ⟨hc 0 _ (by omega) rfl, hc 1 _ (by omega) rfl⟩
theorem own_fzW {w : World} {base : Nat} {e : TypeId} {s g n cap : Nat} {ws : List Value} (h : w.ownsRow base e s (.slice (some ⟨g, 0, none⟩) n cap) n ws) (j : Nat) : w.frozen? ⟨g, j, none⟩ = false := by
 rcases h.2 with ⟨hv, hn0⟩ | ⟨g', cap', cur, hv, hbg, hg, _⟩
 ·simp at hv
 ·simp only [Value.slice.injEq, Option.some.injEq, Addr.mk.injEq, and_true, true_and] at hv
  obtain ⟨rfl, rfl⟩ := hv
  exact Blk.fz (t := e) hg j
theorem own_someW {w : World} {base : Nat} {e : TypeId} {s : Nat} {v : Value} {n : Nat} {ws : List Value} (h : w.ownsRow base e s v n ws) (hn : 0 < n) : ∃ g cap, v = .slice (some ⟨g, 0, none⟩) n cap ∧ g < w.heap.size ∧ n ≤ cap ∧ base ≤ g := by
 rcases h.2 with ⟨hv, hn0⟩ | ⟨g, cap, cur, rfl, hbg, hg, hnc, _⟩
 ·omega
 ·exact ⟨g, cap, rfl, Blk.lt (t := e) hg, hnc, hbg⟩
theorem own_slW {w : World} {base : Nat} {e : TypeId} {s : Nat} {v : Value} {n : Nat} {ws : List Value} (h : w.ownsRow base e s v n ws) : ∃ a cap, v = .slice a n cap := by
 rcases h.2 with ⟨hv, hn0⟩ | ⟨g, cap, cur, rfl, _⟩
 ·subst hn0; exact ⟨_, _, hv⟩
 ·exact ⟨_, _, rfl⟩
theorem own_thereW {w : World} {base : Nat} {e : TypeId} {g n cap j : Nat} {ws : List Ar} (h : w.ownsRow base e 2 (.slice (some ⟨g, 0, none⟩) n cap) n (ws.flatMap encD)) (hj : j < ws.length) : w.there g (j * 2) 2 := by
 obtain ⟨h0, h1⟩ := own_two h hj
 intro i hi
 refine ⟨?_, own_fzW h _⟩
 have : i = 0 ∨ i = 1 := by omega
 rcases this with rfl | rfl
 ·rw [Nat.add_zero, h0]; rfl
 ·rw [h1]; rfl
theorem set_wayL {xs : List Ar} {k : Nat} (hk : k < xs.length) (p : Ar) : ((xs.flatMap encD).set (k * 2) (.int .i64 p.1)).set (k * 2 + 1) (.int .i64 p.2.2.2) = (xs.set k p).flatMap encD := by
  induction xs generalizing k with
  | nil => simp at hk
  | cons x xs ih =>
    cases k with
    | zero => simp [encD]
    | succ k =>
      have h4 := ih (k := k) (by simpa using hk)
      rw [List.set_cons_succ, List.flatMap_cons, List.flatMap_cons, ← h4]
      have e : ∀ (l : List Value) (i : Nat) (v : Value), (encD x ++ l).set ((k + 1) * 2 + i) v = encD x ++ l.set (k * 2 + i) v := fun l i v => by
        rw [List.set_append_right _ _ (by rw [encD_len]; omega), encD_len]
        congr 2
        omega
      have e0 := e (xs.flatMap encD) 0 (.int .i64 p.1)
      have e1 : (encD x ++ List.flatMap encD xs).set ((k + 1) * 2) (Value.int IntKind.i64 p.1) = encD x ++ (List.flatMap encD xs).set (k * 2) (Value.int IntKind.i64 p.1) := e0
      rw [e1, e]
theorem own_setW {w : World} {base : Nat} {e : TypeId} {g n cap j : Nat} {ws : List Ar} (h : w.ownsRow base e 2 (.slice (some ⟨g, 0, none⟩) n cap) n (ws.flatMap encD)) (hj : j < ws.length) (x : Ar) :
  (w.setCells g (j * 2) (encD x)).ownsRow base e 2 (.slice (some ⟨g, 0, none⟩) n cap) n ((ws.set j x).flatMap encD) := by
 have hlen := h.1
 rw [flat_length encD_len] at hlen
 rcases h.2 with ⟨hv, hn0⟩ | ⟨g', cap', cur, hv, hbg, hg, hnc, hcm, hcs, htake⟩
 ·simp at hv
 ·simp only [Value.slice.injEq, Option.some.injEq, Addr.mk.injEq, and_true, true_and] at hv
  obtain ⟨rfl, rfl⟩ := hv
  have hB : Blk w g cur e := hg
  refine ⟨by rw [flat_length encD_len, List.length_set]; exact hlen, .inr ⟨g, cap, (cur.setIfInBounds (j * 2) (.int .i64 x.1)).setIfInBounds (j * 2 + 1) (.int .i64 x.2.2.2), rfl, hbg, ?_, hnc, hcm, by simpa using hcs, ?_⟩⟩
  ·have := (hB.set (j * 2) (.int .i64 x.1)).set (j * 2 + 1) (.int .i64 x.2.2.2)
   exact this
  ·rw [Array.toList_setIfInBounds, Array.toList_setIfInBounds, List.take_set, List.take_set, htake]
   exact set_wayL hj x
theorem gSetW (w : World) (g o : Nat) (x : Ar) : w.grownBy (w.setCells g o (encD x)) (some g) :=
 gTrans (gSet w g o (.int .i64 x.1)) (gSet _ g (o + 1) (.int .i64 x.2.2.2))
set_option maxRecDepth 100000 in
theorem wLen_any (a : Option Addr) (n cap : Nat) (w : World) :
  Calls Try.prog 71 #[.slice a n cap] w fun e w' => e = .returned (.int .i64 (n : Int)) ∧ w' = w := by
 go_enter Try.func71, Try.ntmps71
 go_wp2
 go_ret
 exact ⟨rfl, rfl⟩
set_option maxRecDepth 100000 in
set_option maxHeartbeats 2000000 in
theorem wLess_any (g n cap : Nat) (w : World) (x y : Int) (i j : Nat) (hi : i < n) (hj : j < n) (hn : n ≤ 10000000) (ci : w.cell? ⟨g, i * 2 + 1, none⟩ = some (.int .i64 x)) (cj : w.cell? ⟨g, j * 2 + 1, none⟩ = some (.int .i64 y)) :
  Calls Try.prog 117 #[.slice (some ⟨g, 0, none⟩) n cap, .int .i64 (i : Int), .int .i64 (j : Int)] w fun e w' => e = .returned (.bool (decide (x < y))) ∧ ∃ q, w' = w.drewN q := by
 go_enter Try.func117, Try.ntmps117
 go_wp2
 go_quiet (fail)
 go_wp2
 go_ret
 exact ⟨rfl, _, rfl⟩
theorem infoWay : (Try.prog.info? 119).map (fun i => (i.zero, i.size, i.bytes)) = some (some (.agg #[.int .i64 0, .int .i64 0]), 2, 16) := by kernel_rfl
theorem infoWaySize : (Try.prog.info? 119).map (·.size) = some 2 := by kernel_rfl
def HeldT (_ : World) : Prop := True
set_option maxRecDepth 100000 in
set_option maxHeartbeats 2000000 in
theorem wSwap_any (g n cap : Nat) (w : World) (x y : Ar) (i j : Nat) (hi : i < n) (hj : j < n) (hn : n ≤ 10000000) (ci : TwoW w g (i * 2) x) (cj : TwoW w g (j * 2) y) (fi : w.there g (i * 2) 2) (fj : w.there g (j * 2) 2) :
  Calls Try.prog 118 #[.slice (some ⟨g, 0, none⟩) n cap, .int .i64 (i : Int), .int .i64 (j : Int)] w fun e w' => e = .returned (.tuple #[]) ∧ w' = (w.drew.setCells g (i * 2) (encD y)).setCells g (j * 2) (encD x) := by
 have F1 : Hid (w.drew.there g (i * 2) 2) := fi
 have F2 : Hid ((w.drew.setCells g (i * 2) (encD y)).there g (j * 2) 2) := World.there_setCells (w := w.drew) fj g (i * 2) (encD y)
 obtain ⟨W2, hW2⟩ : ∃ W2, W2 = (w.drew.setCells g (i * 2) (encD y)).setCells g (j * 2) (encD x) := ⟨_, rfl⟩
 have HW2 : Hid (W2 = (w.drew.setCells g (i * 2) (encD y)).setCells g (j * 2) (encD x)) := hW2
 rw [← hW2]
 clear hW2
 obtain ⟨x0, x1, x2, x3⟩ := x
 obtain ⟨y0, y1, y2, y3⟩ := y
 obtain ⟨a0, a3⟩ := ci
 obtain ⟨b0, b3⟩ := cj
 simp only at a0 a3 b0 b3
 have k1 : (0 : Int) ≤ (i : Int) := by omega
 have k2 : (i : Int) < (n : Int) := by omega
 have k3 : (0 : Int) ≤ (j : Int) := by omega
 have k4 : (j : Int) < (n : Int) := by omega
 clear fi fj
 have HS : HeldT w.drew := trivial
 go_enter Try.func118, Try.ntmps118
 go_wp2
 refine region_anyL HeldT 15 (by kernel_rfl) ?_
 refine anyL_tk (i := 0) (v := ?v0_1) aZ0 (by kernel_rfl) ?y0_1 HS ?r0_1
 case y0_1 => intro wx hx; obtain h1 := hx; go_simp; try (with_reducible rfl)
 simp only [Act.put, List.setIfInBounds_toArray, List.set_cons_zero, List.set_cons_succ]
 refine anyL_tk (i := 1) (v := ?v1_2) aZ1 (by kernel_rfl) ?y1_2 HS ?r1_2
 case y1_2 => intro wx hx; obtain h1 := hx; go_simp; try (with_reducible rfl)
 simp only [Act.put, List.setIfInBounds_toArray, List.set_cons_zero, List.set_cons_succ]
 refine anyL_tk (i := 2) (v := ?v2_3) aZ2 (by kernel_rfl) ?y2_3 HS ?r2_3
 case y2_3 => intro wx hx; obtain h1 := hx; go_simp; try (with_reducible rfl)
 simp only [Act.put, List.setIfInBounds_toArray, List.set_cons_zero, List.set_cons_succ]
 refine anyL_tk (i := 3) (v := ?v3_4) aZ3 (by kernel_rfl) ?y3_4 HS ?r3_4
 case y3_4 => intro wx hx; obtain h1 := hx; go_simp; try (with_reducible rfl)
 simp only [Act.put, List.setIfInBounds_toArray, List.set_cons_zero, List.set_cons_succ]
 refine anyL_tk (i := 4) (v := ?v4_5) aZ4 (by kernel_rfl) ?y4_5 HS ?r4_5
 case y4_5 => intro wx hx; obtain h1 := hx; go_simp; try (with_reducible rfl)
 simp only [Act.put, List.setIfInBounds_toArray, List.set_cons_zero, List.set_cons_succ]
 refine anyL_tk (i := 5) (v := ?v5_6) aZ5 (by kernel_rfl) ?y5_6 HS ?r5_6
 case y5_6 => intro wx hx; obtain h1 := hx; go_simp; try (with_reducible rfl)
 simp only [Act.put, List.setIfInBounds_toArray, List.set_cons_zero, List.set_cons_succ]
 refine anyL_tk (i := 6) (v := ?v6_7) aZ6 (by kernel_rfl) ?y6_7 HS ?r6_7
 case y6_7 => intro wx hx; obtain h1 := hx; go_simp; try (with_reducible rfl)
 simp only [Act.put, List.setIfInBounds_toArray, List.set_cons_zero, List.set_cons_succ]
 refine anyL_tk (i := 8) (v := ?v8_8) aZ8 (by kernel_rfl) ?y8_8 HS ?r8_8
 case y8_8 => intro wx hx; obtain h1 := hx; go_simp; try (with_reducible rfl)
 simp only [Act.put, List.setIfInBounds_toArray, List.set_cons_zero, List.set_cons_succ]
 refine anyL_tk (i := 9) (v := ?v9_9) aZ9 (by kernel_rfl) ?y9_9 HS ?r9_9
 case y9_9 => intro wx hx; obtain h1 := hx; go_simp; try (with_reducible rfl)
 simp only [Act.put, List.setIfInBounds_toArray, List.set_cons_zero, List.set_cons_succ]
 refine anyL_tk (i := 10) (v := ?v10_10) aZ10 (by kernel_rfl) ?y10_10 HS ?r10_10
 case y10_10 => intro wx hx; obtain h1 := hx; go_simp; try (with_reducible rfl)
 simp only [Act.put, List.setIfInBounds_toArray, List.set_cons_zero, List.set_cons_succ]
 refine anyL_br (rs := [7, 11]) (by kernel_rfl) (by simp) (List.forall_mem_cons.2 ⟨⟨_, (atS (atS (atS (atS (atS (atS (atS at0))))))), rfl, fun K hK => ?_⟩, List.forall_mem_cons.2 ⟨⟨_, (atS (atS (atS (atS (atS (atS (atS (atS (atS (atS (atS at0))))))))))), rfl, fun K hK => ?_⟩, fun _ h => absurd h (by simp)⟩⟩)
 ·go_simp
  refine hK _ _ (.inr trivial) ?_
  try simp only [Act.put, List.setIfInBounds_toArray, List.set_cons_zero, List.set_cons_succ]
  refine anyL_one (i := 11) aZ11 (by kernel_rfl) rfl (fun K hK => ?_)
  go_simp
  refine hK _ _ (.inr trivial) ?_
  try simp only [Act.put, List.setIfInBounds_toArray, List.set_cons_zero, List.set_cons_succ]
  refine anyL_tk (i := 12) (v := ?v12_11) aZ12 (by kernel_rfl) ?y12_11 HS ?r12_11
  case y12_11 => intro wx hx; obtain h1 := hx; go_simp; try (with_reducible rfl)
  simp only [Act.put, List.setIfInBounds_toArray, List.set_cons_zero, List.set_cons_succ]
  refine anyL_one (i := 13) aZ13 (by kernel_rfl) rfl (fun K hK => ?_)
  refine wp_store_mid 119 (.tmp 18) (.tmp 13) rfl g (i * 2) #[.int .i64 y0, .int .i64 y3] rfl rfl F1.out infoWaySize (by simp [Value.oneCell']) ?_
  refine hK _ _ (.inr trivial) ?_
  try simp only [Act.put, List.setIfInBounds_toArray, List.set_cons_zero, List.set_cons_succ]
  refine anyL_tk (i := 14) (v := ?v14_12) aZ14 (by kernel_rfl) ?y14_12 trivial ?r14_12
  case y14_12 => intro wx hx; obtain h1 := hx; go_simp; try (with_reducible rfl)
  simp only [Act.put, List.setIfInBounds_toArray, List.set_cons_zero, List.set_cons_succ]
  refine anyL_one (i := 15) aZ15 (by kernel_rfl) rfl (fun K hK => ?_)
  refine wp_store_mid 119 (.tmp 19) (.tmp 17) rfl g (j * 2) #[.int .i64 x0, .int .i64 x3] rfl rfl F2.out infoWaySize (by simp [Value.oneCell']) ?_
  rw [show (World.setCells (World.setCells w.drew g (i * 2) (#[Value.int .i64 y0, .int .i64 y3] : Array Value).toList) g (j * 2) (#[Value.int .i64 x0, .int .i64 x3] : Array Value).toList) = W2 from HW2.out.symm]
  refine hK _ _ (.inl rfl) (anyL_done (by kernel_rfl) (NoPanic.normal ?_))
  clear a0 a3 b0 b3 F1 F2 HW2 hK
  go_end0
  exact ⟨rfl, rfl⟩
 ·go_simp
  refine hK _ _ (.inr trivial) ?_
  try simp only [Act.put, List.setIfInBounds_toArray, List.set_cons_zero, List.set_cons_succ]
  refine anyL_one (i := 7) aZ7 (by kernel_rfl) rfl (fun K hK => ?_)
  go_simp
  refine hK _ _ (.inr trivial) ?_
  try simp only [Act.put, List.setIfInBounds_toArray, List.set_cons_zero, List.set_cons_succ]
  refine anyL_tk (i := 12) (v := ?v12_13) aZ12 (by kernel_rfl) ?y12_13 HS ?r12_13
  case y12_13 => intro wx hx; obtain h1 := hx; go_simp; try (with_reducible rfl)
  simp only [Act.put, List.setIfInBounds_toArray, List.set_cons_zero, List.set_cons_succ]
  refine anyL_one (i := 13) aZ13 (by kernel_rfl) rfl (fun K hK => ?_)
  refine wp_store_mid 119 (.tmp 18) (.tmp 13) rfl g (i * 2) #[.int .i64 y0, .int .i64 y3] rfl rfl F1.out infoWaySize (by simp [Value.oneCell']) ?_
  refine hK _ _ (.inr trivial) ?_
  try simp only [Act.put, List.setIfInBounds_toArray, List.set_cons_zero, List.set_cons_succ]
  refine anyL_tk (i := 14) (v := ?v14_14) aZ14 (by kernel_rfl) ?y14_14 trivial ?r14_14
  case y14_14 => intro wx hx; obtain h1 := hx; go_simp; try (with_reducible rfl)
  simp only [Act.put, List.setIfInBounds_toArray, List.set_cons_zero, List.set_cons_succ]
  refine anyL_one (i := 15) aZ15 (by kernel_rfl) rfl (fun K hK => ?_)
  refine wp_store_mid 119 (.tmp 19) (.tmp 17) rfl g (j * 2) #[.int .i64 x0, .int .i64 x3] rfl rfl F2.out infoWaySize (by simp [Value.oneCell']) ?_
  rw [show (World.setCells (World.setCells w.drew g (i * 2) (#[Value.int .i64 y0, .int .i64 y3] : Array Value).toList) g (j * 2) (#[Value.int .i64 x0, .int .i64 x3] : Array Value).toList) = W2 from HW2.out.symm]
  refine hK _ _ (.inl rfl) (anyL_done (by kernel_rfl) (NoPanic.normal ?_))
  clear a0 a3 b0 b3 F1 F2 HW2 hK
  go_end0
  exact ⟨rfl, rfl⟩
end Go.Proofs.Ytfpibdaedfilaaa.Dw
