/- How far it is: the tables at the start, and what one state's arcs tell (no program in sight). -/
import Derived.Test.YthajkkobgfighaaGreatDoorJaf
import Derived.Test.YthajkkobgfighaaGreatDoorJaa
namespace Go.Proofs.YthajkkobgfighaaGreatDoor.Pl
set_option linter.unusedVariables false
set_option linter.unusedSimpArgs false
theorem fin_small {m : Mc} (hf : faultM m = 0) {p : Nat} (hp : p < m.2.length) (hn : (el m.2 p).1 ≠ 1000000001) : 0 ≤ (el m.2 p).1 ∧ (el m.2 p).1 ≤ 1000000000 := by
 have h1 := stB_fin ((right_parts hf).2 _ (el_mem hp))
 simp [finB, inB] at h1
 omega
def endI (f : Int) : Int := if f = 1000000001 then noneI else f
theorem endT_start {m : Mc} (hf : faultM m = 0) {cs : List Int} (hl : cs.length = m.2.length) (h : ∀ q, q < m.2.length → el cs q = endI (el m.2 q).1) : EndT m.2 cs ∧ EndTo m.2 0 0 cs := by
 refine ⟨⟨hl, fun q hq => ?_, fun q hq hn => ?_⟩, fun n q p d hn hr hp hfi => ?_, fun n q' w j p d _ hq => absurd hq (by omega)⟩
 ·rw [h q hq]
  unfold endI
  split
  ·unfold noneI; omega
  ·rename_i g
   have := fin_small hf hq g
   unfold noneI; omega
 ·rw [h q hq] at hn ⊢
  unfold endI at hn ⊢
  split at hn
  ·omega
  ·rename_i g
   rw [if_neg g]
   exact ⟨0, q, 0, .nil, hq, g, by omega⟩
 ·obtain rfl : n = 0 := by omega
  cases hr
  rw [h q hp]
  unfold endI
  rw [if_neg hfi]
  omega
theorem endHb {m : Mc} (hf : faultM m = 0) {k : Nat} {cs : List Int} (hk : k ≤ 60) (h : EndLe m.2 k cs) : ∀ n j p d, n ≤ k → Run (ArcE m.2) j n p d → p < m.2.length → (el m.2 p).1 ≠ 1000000001 → el cs j < noneI := fun n j p d hn hr hp hfi => by
 have h1 := h n j p d hn hr hp hfi
 have h2 := run_small hf hr (by omega)
 have h3 := fin_small hf hp hfi
 unfold noneI
 omega
def ClsE (cs : List Int) (q : Nat) (ar : List Ar) (t : Nat) : Prop := ∀ s, s < t → ∀ j : Nat, (el ar s).2.2.2 = (j : Int) → el cs j < noneI → el cs q ≤ el cs j + ((el ar s).2.2.1.toNat : Int)
theorem ClsE.set {cs : List Int} {q t : Nat} {ar : List Ar} {c : Int} (h : ClsE cs q ar t) (hq : q < cs.length) (hlt : c < el cs q) : ClsE (cs.set q c) q ar t := by
 intro s hs j hj hn
 rw [el_setT hq, el_setT hq, if_pos rfl]
 rw [el_setT hq] at hn
 split
 ·omega
 ·rename_i g
  rw [if_neg g] at hn
  have := h s hs j hj hn
  omega
theorem ClsE.step {cs : List Int} {q t : Nat} {ar : List Ar} (h : ClsE cs q ar t) (hs : ∀ j : Nat, (el ar t).2.2.2 = (j : Int) → el cs j < noneI → el cs q ≤ el cs j + ((el ar t).2.2.1.toNat : Int)) : ClsE cs q ar (t + 1) := by
 intro s hs' j hj hn
 by_cases e : s = t
 ·rw [e] at hj ⊢; exact hs j hj hn
 ·exact h s (by omega) j hj hn
theorem ClsE.all {cs : List Int} {q : Nat} {l : List St} (h : ClsE cs q (el l q).2 (el l q).2.length) : ∀ w j, ArcE l q w j → el cs j < noneI → el cs q ≤ el cs j + (w : Int) := by
 rintro w j ⟨a, ha, h1, rfl⟩ hn
 obtain ⟨s, hs, e⟩ := List.getElem_of_mem ha
 have := h s hs j (by rw [el_get hs, e]; exact h1) hn
 rw [el_get hs, e] at this
 exact this
def ClsF (cs : List Int) (q : Nat) (ar : List Ar) (t : Nat) : Prop := ∀ s, s < t → ∀ j : Nat, (el ar s).2.2.2 = (j : Int) → el cs j ≤ el cs q + ((el ar s).2.2.1.toNat : Int)
theorem ClsF.set {cs : List Int} {q t j w : Nat} {ar : List Ar} (h : ClsF cs q ar t) (hj : j < cs.length) (hlt : el cs q + (w : Int) < el cs j) : ClsF (cs.set j (el cs q + (w : Int))) q ar t := by
 intro s hs i hi
 have h1 := h s hs i hi
 have h2 := set_less hj hlt i
 rw [el_setT hj (j := q), if_neg (fun e => by rw [e] at hlt; omega)]
 omega
theorem ClsF.step {cs : List Int} {q t : Nat} {ar : List Ar} (h : ClsF cs q ar t) (hs : ∀ j : Nat, (el ar t).2.2.2 = (j : Int) → el cs j ≤ el cs q + ((el ar t).2.2.1.toNat : Int)) : ClsF cs q ar (t + 1) := by
 intro s hs' j hj
 by_cases e : s = t
 ·rw [e] at hj ⊢; exact hs j hj
 ·exact h s (by omega) j hj
theorem ClsF.all {cs : List Int} {q : Nat} {l : List St} (h : ClsF cs q (el l q).2 (el l q).2.length) : ∀ w j, ArcE l q w j → el cs q < noneI → el cs j ≤ el cs q + (w : Int) := by
 rintro w j ⟨a, ha, h1, rfl⟩ hn
 obtain ⟨s, hs, e⟩ := List.getElem_of_mem ha
 have := h s hs j (by rw [el_get hs, e]; exact h1)
 rw [el_get hs, e] at this
 exact this
def DstAns (m : Mc) (P : Nat → Nat → Prop) (vs : List Int) (ec : Int) : Prop := (faultM m ≠ 0 ∧ vs = [] ∧ ec = faultM m) ∨ (faultM m = 0 ∧ LstAns P m.2.length vs ec)
theorem DstAns.one {m : Mc} {P : Nat → Nat → Prop} {vs ws : List Int} {e f : Int} (h : DstAns m P vs e) (k : DstAns m P ws f) : vs = ws ∧ e = f := by
 rcases h with ⟨h0, h1, h2⟩ | ⟨h0, h1⟩ <;> rcases k with ⟨k0, k1, k2⟩ | ⟨k0, k1⟩
 ·exact ⟨h1.trans k1.symm, h2.trans k2.symm⟩
 ·exact absurd k0 h0
 ·exact absurd h0 k0
 ·exact h1.one k1
def LpaAns (m : Mc) (x e : Int) : Prop := ∃ vs f, DstAns m (EndC m.2) vs f ∧ ((f ≠ 0 ∧ x = 0 ∧ e = f) ∨ (f = 0 ∧ e = 0 ∧ x = if m.1 < 0 then 1000000001 else el vs m.1.toNat))
theorem LpaAns.one {m : Mc} {x e x' e' : Int} (h : LpaAns m x e) (k : LpaAns m x' e') : x = x' ∧ e = e' := by
 obtain ⟨vs, f, h1, h2⟩ := h
 obtain ⟨ws, g, k1, k2⟩ := k
 obtain ⟨rfl, rfl⟩ := h1.one k1
 rcases h2 with ⟨h2, h3, h4⟩ | ⟨h2, h3, h4⟩ <;> rcases k2 with ⟨k2, k3, k4⟩ | ⟨k2, k3, k4⟩
 ·exact ⟨h3.trans k3.symm, h4.trans k4.symm⟩
 ·exact absurd k2 h2
 ·exact absurd h2 k2
 ·exact ⟨h4.trans k4.symm, h3.trans k3.symm⟩
theorem DstAns.len {m : Mc} {P : Nat → Nat → Prop} {vs : List Int} (h : DstAns m P vs 0) : vs.length = m.2.length ∧ -1 ≤ m.1 ∧ m.1 ≤ (m.2.length : Int) - 1 := by
 rcases h with ⟨h0, h1, h2⟩ | ⟨h0, h1⟩
 ·exact absurd h2.symm h0
 ·rcases h1 with ⟨_, h2, _⟩ | ⟨h2, _⟩
  ·exact ⟨h2, (right_parts h0).1⟩
  ·exact absurd h2 (by decide)
theorem DstAns.short {m : Mc} {P : Nat → Nat → Prop} {vs : List Int} {ec : Int} (h : DstAns m P vs ec) : vs.length ≤ m.2.length := by
 rcases h with ⟨_, h1, _⟩ | ⟨_, ⟨_, h1, _⟩ | ⟨_, h1, _⟩⟩
 ·rw [h1]; exact Nat.zero_le _
 ·omega
 ·rw [h1]; exact Nat.zero_le _
end Go.Proofs.YthajkkobgfighaaGreatDoor.Pl
namespace Go.Proofs.YthajkkobgfighaaGreatDoor.Pl
def placeL' (x : Int) : Nat → List Int → Int
 | _, [] => -1
 | i, k :: l => if k = x then (i : Int) else placeL' x (i + 1) l
def placeI (ks : List Int) (x : Int) : Int := placeL' x 0 ks
theorem placeL'_at {x : Int} {ks : List Int} {i k : Nat} (hk : k < ks.length) (h : ∀ j, j < k → el ks j ≠ x) (e : el ks k = x) : placeL' x i ks = ((i + k : Nat) : Int) := by
  induction ks generalizing i k with
  | nil => simp at hk
  | cons y l ih =>
    cases k with
    | zero => rw [el_zero] at e; simp [placeL', e]
    | succ k =>
      have h0 := h 0 (by omega)
      rw [el_zero] at h0
      rw [placeL', if_neg h0, ih (k := k) (by simpa using hk) (fun j hj => by have := h (j + 1) (by omega); rwa [el_succ] at this) (by rwa [el_succ] at e)]
      congr 1; omega
theorem placeL'_none {x : Int} {ks : List Int} {i : Nat} (h : ∀ j, j < ks.length → el ks j ≠ x) : placeL' x i ks = -1 := by
  induction ks generalizing i with
  | nil => rfl
  | cons y l ih =>
    have h0 := h 0 (by simp)
    rw [el_zero] at h0
    rw [placeL', if_neg h0]
    exact ih (fun j hj => by have := h (j + 1) (by simpa using hj); rwa [el_succ] at this)
theorem placeI_at {x : Int} {ks : List Int} {k : Nat} (hk : k < ks.length) (h : ∀ j, j < k → el ks j ≠ x) (e : el ks k = x) : placeI ks x = (k : Int) := by
 have := placeL'_at (i := 0) hk h e
 rwa [Nat.zero_add] at this
theorem placeI_none {x : Int} {ks : List Int} (h : ∀ j, j < ks.length → el ks j ≠ x) : placeI ks x = -1 := placeL'_none h
def keptL (a b : List Bool) (n : Nat) : List Int := ((List.range n).filter fun q => el a q && el b q).map fun q : Nat => (q : Int)
theorem keptL_succ (a b : List Bool) (n : Nat) : keptL a b (n + 1) = keptL a b n ++ (if (el a n && el b n) = true then [(n : Int)] else []) := by
 unfold keptL
 rw [List.range_succ, List.filter_append, List.map_append]
 cases h : (el a n && el b n) <;> simp [h]
theorem keptL_le (a b : List Bool) (n : Nat) : (keptL a b n).length ≤ n := by
 unfold keptL
 rw [List.length_map]
 exact Nat.le_trans (List.length_filter_le _ _) (by simp)
theorem keptL_mem {a b : List Bool} {n : Nat} {x : Int} (h : x ∈ keptL a b n) : ∃ q : Nat, x = (q : Int) ∧ q < n ∧ el a q = true ∧ el b q = true := by
 unfold keptL at h
 simp only [List.mem_map, List.mem_filter, List.mem_range, Bool.and_eq_true] at h
 obtain ⟨q, ⟨h1, h2, h3⟩, rfl⟩ := h
 exact ⟨q, rfl, h1, h2, h3⟩
def turnA (ks : List Int) (c : Ar) : Ar := (c.1, c.2.1, c.2.2.1, placeI ks c.2.2.2)
def trimA (ks : List Int) (l : List Ar) : List Ar := (l.map (turnA ks)).filter fun c => decide (0 ≤ c.2.2.2)
theorem trimA_take {ks : List Int} {l : List Ar} {k : Nat} (h : k < l.length) : trimA ks (l.take (k + 1)) = trimA ks (l.take k) ++ (if 0 ≤ placeI ks (el l k).2.2.2 then [turnA ks (el l k)] else []) := by
 unfold trimA
 rw [take_el h, List.map_append, List.filter_append]
 congr 1
 by_cases e : 0 ≤ placeI ks (el l k).2.2.2 <;> simp [e, turnA]
theorem trimA_le (ks : List Int) (l : List Ar) : (trimA ks l).length ≤ l.length := by
 unfold trimA
 exact Nat.le_trans (List.length_filter_le _ _) (by simp)
def trimS (l : List St) (ks : List Int) (x : Int) : St := ((el l x.toNat).1, trimA ks (el l x.toNat).2)
def trimM (z : Int) (l : List St) (ks : List Int) : Mc := (placeI ks z, ks.map (trimS l ks))
def AheadC (z : Int) (l : List St) (T : Nat → Prop) : Prop := (∀ q, q < l.length → (q : Int) = z → T q) ∧ ∀ q, q < l.length → T q → ∀ a ∈ (el l q).2, T a.2.2.2.toNat
def BackC (l : List St) (T : Nat → Prop) : Prop := (∀ q, q < l.length → (el l q).1 ≠ 1000000001 → T q) ∧ ∀ q, q < l.length → ∀ a ∈ (el l q).2, T a.2.2.2.toNat → T q
def Least (C : (Nat → Prop) → Prop) (n : Nat) (bs : List Bool) : Prop := bs.length = n ∧ C (fun q => el bs q = true) ∧ ∀ T, C T → ∀ q, q < n → el bs q = true → T q
theorem Least.one {C : (Nat → Prop) → Prop} {n : Nat} {a b : List Bool} (ha : Least C n a) (hb : Least C n b) : a = b := by
 apply el_ext (by rw [ha.1, hb.1])
 intro j hj
 have hj' : j < n := by rw [ha.1] at hj; exact hj
 have h1 := ha.2.2 _ hb.2.1 j hj'
 have h2 := hb.2.2 _ ha.2.1 j hj'
 rw [Bool.eq_iff_iff]
 exact ⟨h1, h2⟩
def leL (a b : List Bool) : Prop := a.length = b.length ∧ ∀ j, j < a.length → el a j = true → el b j = true
theorem leL.refl (a : List Bool) : leL a a := ⟨rfl, fun _ _ h => h⟩
theorem leL.trans {a b c : List Bool} (h : leL a b) (k : leL b c) : leL a c := ⟨h.1.trans k.1, fun j hj e => k.2 j (by rw [← h.1]; exact hj) (h.2 j hj e)⟩
theorem el_setB {l : List Bool} {q j : Nat} (hq : q < l.length) : el (l.set q true) j = if j = q then true else el l j := by
 by_cases h : j = q
 ·subst h; rw [if_pos rfl, el_get (by simpa using hq)]; simp
 ·rw [if_neg h]; simp [el, List.getElem?_set_ne (Ne.symm h)]
theorem leL.set (a : List Bool) {q : Nat} (hq : q < a.length) : leL a (a.set q true) := by
 refine ⟨by simp, fun j hj h => ?_⟩
 rw [el_setB hq]
 split
 ·rfl
 ·exact h
theorem leL.same {a b : List Bool} (h : leL a b) (k : leL b a) : a = b := by
 apply el_ext h.1
 intro j hj
 rw [Bool.eq_iff_iff]
 exact ⟨h.2 j hj, k.2 j (by rw [← h.1]; exact hj)⟩
theorem count_mono {a b : List Bool} (h : leL a b) : a.count true ≤ b.count true := by
  induction a generalizing b with
  | nil => simp
  | cons x a ih =>
    cases b with
    | nil => simp [leL] at h
    | cons y b =>
      have h0 := h.2 0 (by simp)
      rw [el_zero, el_zero] at h0
      have := ih (b := b) ⟨by simpa using h.1, fun j hj e => by have := h.2 (j + 1) (by simpa using hj); rw [el_succ, el_succ] at this; exact this e⟩
      simp only [List.count_cons]
      cases x <;> cases y <;> simp_all <;> omega
theorem count_lt {a b : List Bool} (h : leL a b) (hne : a ≠ b) : a.count true < b.count true := by
  induction a generalizing b with
  | nil =>
    cases b with
    | nil => exact absurd rfl hne
    | cons y b => simp [leL] at h
  | cons x a ih =>
    cases b with
    | nil => simp [leL] at h
    | cons y b =>
      have h0 := h.2 0 (by simp)
      rw [el_zero, el_zero] at h0
      have ht : leL a b := ⟨by simpa using h.1, fun j hj e => by have := h.2 (j + 1) (by simpa using hj); rw [el_succ, el_succ] at this; exact this e⟩
      have hm := count_mono ht
      simp only [List.count_cons]
      by_cases hxy : x = y
      · subst hxy
        have := ih ht (fun e => hne (by rw [e]))
        omega
      · cases x <;> cases y <;> simp_all <;> omega
structure Pass (C : (Nat → Prop) → Prop) (n : Nat) (b0 bs : List Bool) (chk : Prop) : Prop where
 len : bs.length = n
 le : leL b0 bs
 sound : ∀ T, C T → ∀ q, q < n → el bs q = true → T q
 chk : bs = b0 → chk
theorem Pass.set {C : (Nat → Prop) → Prop} {n q : Nat} {b0 bs : List Bool} {chk chk' : Prop} (h : Pass C n b0 bs chk) (hq : q < n) (hs : ∀ T, C T → T q) (hc : el b0 q = true → chk → chk') : Pass C n b0 (bs.set q true) chk' := by
 refine ⟨by simpa using h.len, h.le.trans (leL.set bs (by rw [h.len]; exact hq)), fun T hT j hj e => ?_, fun e => ?_⟩
 ·rw [el_setB (by rw [h.len]; exact hq)] at e
  split at e
  ·rename_i hjq; subst hjq; exact hs T hT
  ·exact h.sound T hT j hj e
 ·have h1 : el b0 q = true := by rw [← e, el_setB (by rw [h.len]; exact hq), if_pos rfl]
  have h2 : bs = b0 := h.le.same ⟨h.le.1.symm, fun j hj e' => by
   have := leL.set bs (q := q) (by rw [h.len]; exact hq)
   have := this.2 j hj e'
   rwa [e] at this⟩ |>.symm
  exact hc h1 (h.chk h2)
theorem Pass.keep {C : (Nat → Prop) → Prop} {n : Nat} {b0 bs : List Bool} {chk chk' : Prop} (h : Pass C n b0 bs chk) (hc : bs = b0 → chk → chk') : Pass C n b0 bs chk' := ⟨h.len, h.le, h.sound, fun e => hc e (h.chk e)⟩
structure Rounds (C : (Nat → Prop) → Prop) (n k : Nat) (bs : List Bool) : Prop where
 len : bs.length = n
 sound : ∀ T, C T → ∀ q, q < n → el bs q = true → T q
 more : C (fun q => el bs q = true) ∨ k ≤ bs.count true
theorem Rounds.begin {C : (Nat → Prop) → Prop} {n k : Nat} {bs : List Bool} (h : Rounds C n k bs) {chk : Prop} (hc : chk) : Pass C n bs bs chk := ⟨h.len, leL.refl _, h.sound, fun _ => hc⟩
theorem Rounds.next {C : (Nat → Prop) → Prop} {n k : Nat} {b0 bs : List Bool} {chk : Prop} (h : Rounds C n k b0) (p : Pass C n b0 bs chk) (hc : chk → C (fun q => el b0 q = true)) : Rounds C n (k + 1) bs := by
 refine ⟨p.len, p.sound, ?_⟩
 by_cases e : bs = b0
 ·rw [e]; exact .inl (hc (p.chk e))
 ·rcases h.more with hcl | hk
  ·exact absurd (p.le.same ⟨p.le.1.symm, fun j hj e' => p.sound _ hcl j (by rw [p.len] at hj; exact hj) e'⟩).symm e
  ·have := count_lt p.le (fun e' => e e'.symm)
   exact .inr (by omega)
theorem Rounds.least {C : (Nat → Prop) → Prop} {n : Nat} {bs : List Bool} (h : Rounds C n (n + 1) bs) : Least C n bs := by
 refine ⟨h.len, ?_, h.sound⟩
 rcases h.more with hc | hk
 ·exact hc
 ·have := List.count_le_length (a := true) (l := bs)
  rw [h.len] at this
  omega
theorem el_false {n j : Nat} : el (List.replicate n false) j = false := by
 unfold el
 rw [List.getElem?_replicate]
 split <;> rfl
theorem Rounds.start (C : (Nat → Prop) → Prop) (n : Nat) : Rounds C n 0 (List.replicate n false) := ⟨by simp, fun T _ q _ e => absurd e (by rw [el_false]; simp), .inr (Nat.zero_le _)⟩
end Go.Proofs.YthajkkobgfighaaGreatDoor.Pl
namespace Go.Proofs.YthajkkobgfighaaGreatDoor.Pl
set_option linter.unusedVariables false
set_option linter.unusedSimpArgs false
def pshA (vs : List Int) (q : Nat) (a : Ar) : Ar := (a.1, a.2.1, a.2.2.1 + el vs a.2.2.2.toNat - el vs q, a.2.2.2)
def pshF (vs : List Int) (q : Nat) (f : Int) : Int := if f = 1000000001 then 1000000001 else f - el vs q
def pshS (vs : List Int) (l : List St) (q : Nat) : St := (pshF vs q (el l q).1, (el l q).2.map (pshA vs q))
def pshL (vs : List Int) (l : List St) : List St := (List.range l.length).map (pshS vs l)
def pshM (vs : List Int) (m : Mc) : Mc := (m.1, pshL vs m.2)
def pshT (vs : List Int) (m : Mc) : Int := if m.1 < 0 then 0 else el vs m.1.toNat
def pshO (vs : List Int) (l : List St) : Bool := (List.range l.length).any fun q => (el l q).2.any fun a => decide (1000000000 < (pshA vs q a).2.2.1)
theorem psh_length (vs : List Int) (l : List St) : (pshL vs l).length = l.length := by simp [pshL]
theorem psh_el {vs : List Int} {l : List St} {q : Nat} (h : q < l.length) : el (pshL vs l) q = pshS vs l q := el_range_map _ h
def trmM (m : Mc) (aa bs : List Bool) : Mc := trimM m.1 m.2 (keptL aa bs m.2.length)
def PshAns (m x : Mc) (tot ec : Int) : Prop :=
 (faultM m ≠ 0 ∧ x = (0, []) ∧ tot = 0 ∧ ec = faultM m) ∨
 (faultM m = 0 ∧ ∃ aa bs vs e, Least (AheadC m.1 m.2) m.2.length aa ∧ Least (BackC m.2) m.2.length bs ∧ DstAns (trmM m aa bs) (EndC (trmM m aa bs).2) vs e ∧
  ((e ≠ 0 ∧ x = (0, []) ∧ tot = 0 ∧ ec = e) ∨ (e = 0 ∧ pshO vs (trmM m aa bs).2 = true ∧ x = (0, []) ∧ tot = 0 ∧ ec = 4) ∨
   (e = 0 ∧ pshO vs (trmM m aa bs).2 = false ∧ x = pshM vs (trmM m aa bs) ∧ tot = pshT vs (trmM m aa bs) ∧ ec = 0)))
theorem PshAns.one {m x x' : Mc} {t t' e e' : Int} (h : PshAns m x t e) (k : PshAns m x' t' e') : x = x' ∧ t = t' ∧ e = e' := by
 rcases h with ⟨h0, h1, h2, h3⟩ | ⟨h0, aa, bs, vs, f, hA, hB, hD, h⟩ <;> rcases k with ⟨k0, k1, k2, k3⟩ | ⟨k0, aa', bs', vs', f', kA, kB, kD, k⟩
 ·exact ⟨h1.trans k1.symm, h2.trans k2.symm, h3.trans k3.symm⟩
 ·exact absurd k0 h0
 ·exact absurd h0 k0
 ·obtain rfl := hA.one kA
  obtain rfl := hB.one kB
  obtain ⟨rfl, rfl⟩ := hD.one kD
  rcases h with ⟨h1, h2, h3, h4⟩ | ⟨h1, h5, h2, h3, h4⟩ | ⟨h1, h5, h2, h3, h4⟩ <;> rcases k with ⟨k1, k2, k3, k4⟩ | ⟨k1, k5, k2, k3, k4⟩ | ⟨k1, k5, k2, k3, k4⟩
  ·exact ⟨h2.trans k2.symm, h3.trans k3.symm, h4.trans k4.symm⟩
  ·exact absurd k1 h1
  ·exact absurd k1 h1
  ·exact absurd h1 k1
  ·exact ⟨h2.trans k2.symm, h3.trans k3.symm, h4.trans k4.symm⟩
  ·rw [h5] at k5; cases k5
  ·exact absurd h1 k1
  ·rw [h5] at k5; cases k5
  ·exact ⟨h2.trans k2.symm, h3.trans k3.symm, h4.trans k4.symm⟩
def pulF (total f : Int) : Int := if f = 1000000001 then 1000000001 else f + total
def pulM (total : Int) (m : Mc) : Mc := (m.1, m.2.map fun s => (pulF total s.1, s.2))
def pulO (total : Int) (l : List St) : Bool := l.any fun s => decide (s.1 ≠ 1000000001) && decide (1000000000 < s.1 + total)
def PulAns (m : Mc) (total : Int) (x : Mc) (ec : Int) : Prop :=
 (faultM m ≠ 0 ∧ x = (0, []) ∧ ec = faultM m) ∨
 (faultM m = 0 ∧ inB total 0 1000000000 = false ∧ x = (0, []) ∧ ec = 2) ∨
 (faultM m = 0 ∧ inB total 0 1000000000 = true ∧ ∃ aa bs, Least (AheadC m.1 m.2) m.2.length aa ∧ Least (BackC m.2) m.2.length bs ∧
  ((pulO total (trmM m aa bs).2 = true ∧ x = (0, []) ∧ ec = 4) ∨ (pulO total (trmM m aa bs).2 = false ∧ x = pulM total (trmM m aa bs) ∧ ec = 0)))
theorem PulAns.one {m x x' : Mc} {total e e' : Int} (h : PulAns m total x e) (k : PulAns m total x' e') : x = x' ∧ e = e' := by
 rcases h with ⟨h0, h1, h2⟩ | ⟨h0, h1, h2, h3⟩ | ⟨h0, h1, aa, bs, hA, hB, h⟩ <;> rcases k with ⟨k0, k1, k2⟩ | ⟨k0, k1, k2, k3⟩ | ⟨k0, k1, aa', bs', kA, kB, k⟩
 ·exact ⟨h1.trans k1.symm, h2.trans k2.symm⟩
 ·exact absurd k0 h0
 ·exact absurd k0 h0
 ·exact absurd h0 k0
 ·exact ⟨h2.trans k2.symm, h3.trans k3.symm⟩
 ·rw [h1] at k1; cases k1
 ·exact absurd h0 k0
 ·rw [h1] at k1; cases k1
 ·obtain rfl := hA.one kA
  obtain rfl := hB.one kB
  rcases h with ⟨h5, h2, h3⟩ | ⟨h5, h2, h3⟩ <;> rcases k with ⟨k5, k2, k3⟩ | ⟨k5, k2, k3⟩
  ·exact ⟨h2.trans k2.symm, h3.trans k3.symm⟩
  ·rw [h5] at k5; cases k5
  ·rw [h5] at k5; cases k5
  ·exact ⟨h2.trans k2.symm, h3.trans k3.symm⟩
structure Pot (l : List St) (vs : List Int) : Prop where
 len : vs.length = l.length
 nn : ∀ q, q < l.length → 0 ≤ el vs q ∧ el vs q ≤ 1000000000
 arc : ∀ q, q < l.length → ∀ a ∈ (el l q).2, ∃ t : Nat, a.2.2.2 = (t : Int) ∧ t < l.length ∧ 0 ≤ a.2.2.1 ∧ el vs q ≤ a.2.2.1 + el vs t
 fin : ∀ q, q < l.length → (el l q).1 ≠ 1000000001 → el vs q ≤ (el l q).1 ∧ (el l q).1 ≤ 1000000000
end Go.Proofs.YthajkkobgfighaaGreatDoor.Pl
namespace Go.Proofs.YthajkkobgfighaaGreatDoor.Pl
theorem keptL_sorted (a b : List Bool) (n : Nat) : (keptL a b n).Pairwise (· < ·) := by
 unfold keptL
 rw [List.pairwise_map]
 refine (List.Pairwise.filter _ (List.pairwise_lt_range (n := n))).imp ?_
 intro x y h
 omega
theorem keptL_iff {a b : List Bool} {n q : Nat} : (q : Int) ∈ keptL a b n ↔ q < n ∧ el a q = true ∧ el b q = true := by
 constructor
 ·intro h
  obtain ⟨p, h1, h2, h3, h4⟩ := keptL_mem h
  obtain rfl : q = p := by omega
  exact ⟨h2, h3, h4⟩
 ·rintro ⟨h1, h2, h3⟩
  unfold keptL
  simp only [List.mem_map, List.mem_filter, List.mem_range, Bool.and_eq_true]
  exact ⟨q, ⟨h1, h2, h3⟩, rfl⟩
theorem placeI_el {ks : List Int} (hp : ks.Pairwise (· < ·)) {i : Nat} (hi : i < ks.length) : placeI ks (el ks i) = (i : Int) := by
 refine placeI_at hi (fun j hj => ?_) rfl
 have := List.pairwise_iff_getElem.1 hp j i (by omega) hi hj
 rw [el_get hi, el_get (by omega)]
 omega
theorem placeI_mem {ks : List Int} (hp : ks.Pairwise (· < ·)) {x : Int} (h : x ∈ ks) : ∃ i : Nat, i < ks.length ∧ el ks i = x ∧ placeI ks x = (i : Int) := by
 obtain ⟨i, hi, rfl⟩ := mem_el h
 exact ⟨i, hi, rfl, placeI_el hp hi⟩
theorem placeI_not {ks : List Int} {x : Int} (h : x ∉ ks) : placeI ks x = -1 := placeI_none (fun _ hj e => h (e ▸ el_mem hj))
theorem placeI_nonneg {ks : List Int} (hp : ks.Pairwise (· < ·)) {x : Int} : 0 ≤ placeI ks x ↔ x ∈ ks := by
 constructor
 ·intro h
  by_cases e : x ∈ ks
  ·exact e
  ·rw [placeI_not e] at h; omega
 ·intro h
  obtain ⟨i, _, _, e⟩ := placeI_mem hp h
  rw [e]; omega
section
variable {z : Int} {l : List St} {aa bs : List Bool}
theorem trim_el {ks : List Int} {i : Nat} (hi : i < ks.length) : el (ks.map (trimS l ks)) i = ((el l (el ks i).toNat).1, trimA ks (el l (el ks i).toNat).2) := by
 rw [el_map hi]; rfl
theorem trimA_mem {ks : List Int} {ar : List Ar} {c : Ar} (h : c ∈ trimA ks ar) : ∃ d ∈ ar, c = turnA ks d ∧ 0 ≤ placeI ks d.2.2.2 := by
 unfold trimA at h
 simp only [List.mem_filter, List.mem_map, decide_eq_true_eq] at h
 obtain ⟨⟨d, hd, rfl⟩, h0⟩ := h
 exact ⟨d, hd, rfl, h0⟩
theorem trimA_in {ks : List Int} {ar : List Ar} {d : Ar} (hd : d ∈ ar) (h0 : 0 ≤ placeI ks d.2.2.2) : turnA ks d ∈ trimA ks ar := by
 unfold trimA
 simp only [List.mem_filter, List.mem_map, decide_eq_true_eq]
 exact ⟨⟨d, hd, rfl⟩, h0⟩
theorem el_true {n j : Nat} : el (List.replicate n true) j = true ↔ j < n := by
 unfold el
 rw [List.getElem?_replicate]
 split
 ·rename_i h; simp [h]
 ·rename_i h; simp [h]
theorem to_right (hf : faultM (z, l) = 0) {q : Nat} (hq : q < l.length) {d : Ar} (hd : d ∈ (el l q).2) : ∃ t : Nat, d.2.2.2 = (t : Int) ∧ t < l.length := by
 have h := List.all_eq_true.1 (right_st hf hq).2 d hd
 simp only [arcB, inB, Bool.and_eq_true, decide_eq_true_eq] at h
 exact ⟨d.2.2.2.toNat, by omega, by omega⟩
theorem trim_ahead (hf : faultM (z, l) = 0) (hA : Least (AheadC z l) l.length aa) (hB : Least (BackC l) l.length bs) (T : Nat → Prop) (hT : AheadC (placeI (keptL aa bs l.length) z) ((keptL aa bs l.length).map (trimS l (keptL aa bs l.length))) T) :
  ∀ i, i < (keptL aa bs l.length).length → T i := by
 have hp := keptL_sorted aa bs l.length
 have hk : ∀ q, q < l.length → el aa q = true → el bs q = true → ∃ i : Nat, i < (keptL aa bs l.length).length ∧ el (keptL aa bs l.length) i = (q : Int) ∧ placeI (keptL aa bs l.length) (q : Int) = (i : Int) := fun q hq h1 h2 => placeI_mem hp (keptL_iff.2 ⟨hq, h1, h2⟩)
 have key : ∀ q, q < l.length → el aa q = true → (el aa q = true ∧ (el bs q = true → T (placeI (keptL aa bs l.length) (q : Int)).toNat)) := by
  refine hA.2.2 (fun q => el aa q = true ∧ (el bs q = true → T (placeI (keptL aa bs l.length) (q : Int)).toNat)) ⟨?_, ?_⟩
  ·intro q hq hz
   have h1 := hA.2.1.1 q hq hz
   refine ⟨h1, fun h2 => ?_⟩
   obtain ⟨i, hi, _, e⟩ := hk q hq h1 h2
   rw [e]
   refine hT.1 _ (by simpa using hi) ?_
   rw [← hz, e]; simp
  ·intro q hq h9 d hd
   obtain ⟨t, ht, htn⟩ := to_right hf hq hd
   have h1 := hA.2.1.2 q hq h9.1 d hd
   rw [ht] at h1 ⊢
   simp only [Int.toNat_natCast] at h1 ⊢
   refine ⟨h1, fun h2 => ?_⟩
   have hbq : el bs q = true := hB.2.1.2 q hq d hd (by rw [ht]; simpa using h2)
   obtain ⟨i, hi, hei, e⟩ := hk q hq h9.1 hbq
   obtain ⟨j, hj, hej, e2⟩ := hk t htn h1 h2
   have h3 := h9.2 hbq
   rw [e] at h3
   have h4 := hT.2 i (by simpa using hi) (by simpa using h3) (turnA (keptL aa bs l.length) d) (by
    rw [trim_el hi, hei]
    simp only [Int.toNat_natCast]
    exact trimA_in hd (by rw [ht, e2]; omega))
   simp only [turnA] at h4
   rw [ht] at h4
   exact h4
 intro i hi
 obtain ⟨q, hq, hqn, h1, h2⟩ := keptL_mem (el_mem hi)
 have h3 := (key q hqn h1).2 h2
 rw [← hq, placeI_el hp hi] at h3
 simpa using h3
end
section
variable {z : Int} {l : List St} {aa bs : List Bool}
theorem trim_back (hf : faultM (z, l) = 0) (hA : Least (AheadC z l) l.length aa) (hB : Least (BackC l) l.length bs) (T : Nat → Prop) (hT : BackC ((keptL aa bs l.length).map (trimS l (keptL aa bs l.length))) T) :
  ∀ i, i < (keptL aa bs l.length).length → T i := by
 have hp := keptL_sorted aa bs l.length
 have hk : ∀ q, q < l.length → el aa q = true → el bs q = true → ∃ i : Nat, i < (keptL aa bs l.length).length ∧ el (keptL aa bs l.length) i = (q : Int) ∧ placeI (keptL aa bs l.length) (q : Int) = (i : Int) := fun q hq h1 h2 => placeI_mem hp (keptL_iff.2 ⟨hq, h1, h2⟩)
 have key : ∀ q, q < l.length → el bs q = true → (el bs q = true ∧ (el aa q = true → T (placeI (keptL aa bs l.length) (q : Int)).toNat)) := by
  refine hB.2.2 (fun q => el bs q = true ∧ (el aa q = true → T (placeI (keptL aa bs l.length) (q : Int)).toNat)) ⟨?_, ?_⟩
  ·intro q hq hz
   have h1 := hB.2.1.1 q hq hz
   refine ⟨h1, fun h2 => ?_⟩
   obtain ⟨i, hi, hei, e⟩ := hk q hq h2 h1
   rw [e]
   refine hT.1 _ (by simpa using hi) ?_
   rw [Int.toNat_natCast, trim_el hi, hei]
   simpa using hz
  ·intro q hq d hd h9
   obtain ⟨t, ht, htn⟩ := to_right hf hq hd
   rw [ht] at h9
   simp only [Int.toNat_natCast] at h9
   have h1 : el bs q = true := hB.2.1.2 q hq d hd (by rw [ht]; simpa using h9.1)
   refine ⟨h1, fun h2 => ?_⟩
   have h3 : el aa t = true := by have := hA.2.1.2 q hq h2 d hd; rw [ht] at this; simpa using this
   obtain ⟨i, hi, hei, e⟩ := hk q hq h2 h1
   obtain ⟨j, hj, hej, e2⟩ := hk t htn h3 h9.1
   have h4 := h9.2 h3
   rw [e2] at h4
   rw [e]
   refine hT.2 i (by simpa using hi) (turnA (keptL aa bs l.length) d) (by
    rw [trim_el hi, hei]
    simp only [Int.toNat_natCast]
    exact trimA_in hd (by rw [ht, e2]; omega)) ?_
   simp only [turnA]
   rw [ht, e2]
   exact h4
 intro i hi
 obtain ⟨q, hq, hqn, h1, h2⟩ := keptL_mem (el_mem hi)
 have h3 := (key q hqn h2).2 h1
 rw [← hq, placeI_el hp hi] at h3
 simpa using h3
theorem arcN_cons (s : St) (l : List St) : arcN (s :: l) = s.2.length + arcN l := rfl
theorem trim_arcs (ks : List Int) (n : Nat) (hn : n ≤ l.length) : arcN ((keptL aa bs n).map (trimS l ks)) ≤ arcN (l.take n) := by
  induction n with
  | zero => simp [keptL, arcN]
  | succ n ih =>
    rw [keptL_succ, List.map_append, arcN_append, arcN_take (by omega)]
    have := ih (by omega)
    split
    · have h9 := trimA_le ks (el l n).2
      simp only [List.map_cons, List.map_nil, arcN_cons, arcN, trimS, Int.toNat_natCast]
      omega
    · simp only [List.map_nil, arcN]
      omega
theorem trim_fault (hf : faultM (z, l) = 0) : faultM (trimM z l (keptL aa bs l.length)) = 0 := by
 have hp := keptL_sorted aa bs l.length
 have hle := keptL_le aa bs l.length
 have hsz := right_size hf
 have har := trim_arcs (l := l) (aa := aa) (bs := bs) (keptL aa bs l.length) l.length (Nat.le_refl _)
 rw [List.take_length] at har
 have hpl : ∀ x, -1 ≤ placeI (keptL aa bs l.length) x ∧ placeI (keptL aa bs l.length) x ≤ ((keptL aa bs l.length).length : Int) - 1 := fun x => by
  by_cases e : x ∈ keptL aa bs l.length
  ·obtain ⟨i, hi, _, h⟩ := placeI_mem hp e
   rw [h]; omega
  ·rw [placeI_not e]; omega
 refine faultM_ok ?_ ?_
 ·simp only [sizeB, trimM, Bool.and_eq_true, List.length_map]
  exact ⟨decide_eq_true (by omega), decide_eq_true (by omega)⟩
 ·simp only [rangeB, trimM, Bool.and_eq_true, List.length_map, List.all_eq_true]
  refine ⟨by simp only [inB, Bool.and_eq_true, decide_eq_true_eq]; exact hpl z, fun s hs => ?_⟩
  obtain ⟨x, hx, rfl⟩ := List.mem_map.1 hs
  obtain ⟨q, rfl, hq, _, _⟩ := keptL_mem hx
  have h1 := right_st hf hq
  simp only [stB, trimS, Bool.and_eq_true, List.all_eq_true, Int.toNat_natCast]
  refine ⟨h1.1, fun c hc => ?_⟩
  obtain ⟨d, hd, rfl, h0⟩ := trimA_mem hc
  have h2 := List.all_eq_true.1 h1.2 d hd
  have h3 := hpl d.2.2.2
  simp only [arcB, inB, Bool.and_eq_true, decide_eq_true_eq] at h2
  simp only [arcB, turnA, inB, Bool.and_eq_true]
  exact ⟨⟨⟨⟨decide_eq_true (by omega), decide_eq_true (by omega)⟩, ⟨decide_eq_true (by omega), decide_eq_true (by omega)⟩⟩, ⟨decide_eq_true (by omega), decide_eq_true (by omega)⟩⟩, ⟨decide_eq_true h0, decide_eq_true h3.2⟩⟩
theorem trim_ok (hm : okM (z, l)) : okM (trimM z l (keptL aa bs l.length)) := by
 have hle := keptL_le aa bs l.length
 have h1 := hm.1
 have h2 := hm.2
 refine ⟨by simp only [trimM, List.length_map] at h1 ⊢; omega, fun j hj => ?_⟩
 simp only [trimM, List.length_map] at hj ⊢
 rw [trim_el hj]
 obtain ⟨q, e, hq, _, _⟩ := keptL_mem (el_mem hj)
 rw [e]
 have := trimA_le (keptL aa bs l.length) (el l q).2
 have := h2 q hq
 simp only [Int.toNat_natCast] at this ⊢
 omega
theorem all_least {C : (Nat → Prop) → Prop} {n : Nat} (hC : C (fun q => q < n)) (h : ∀ T, C T → ∀ i, i < n → T i) : Least C n (List.replicate n true) :=
 ⟨by simp, by
  have : (fun q => el (List.replicate n true) q = true) = fun q => q < n := by funext q; rw [el_true]
  rw [this]; exact hC, fun T hT q hq _ => h T hT q hq⟩
theorem trim_to (hf : faultM (z, l) = 0) {i : Nat} (hi : i < (keptL aa bs l.length).length) {c : Ar} (hc : c ∈ (el ((keptL aa bs l.length).map (trimS l (keptL aa bs l.length))) i).2) : ∃ t : Nat, c.2.2.2 = (t : Int) ∧ t < (keptL aa bs l.length).length := by
 have h := to_right (trim_fault (aa := aa) (bs := bs) hf) (q := i) (by simpa [trimM] using hi) (d := c) (by simpa [trimM] using hc)
 simpa using h
theorem trim_all_ahead (hf : faultM (z, l) = 0) (hA : Least (AheadC z l) l.length aa) (hB : Least (BackC l) l.length bs) :
  Least (AheadC (placeI (keptL aa bs l.length) z) ((keptL aa bs l.length).map (trimS l (keptL aa bs l.length)))) (keptL aa bs l.length).length (List.replicate (keptL aa bs l.length).length true) := by
 refine all_least ⟨fun q hq _ => by simpa using hq, fun q hq h c hc => ?_⟩ (trim_ahead hf hA hB)
 obtain ⟨t, h1, h2⟩ := trim_to hf (by simpa using hq) hc
 rw [h1]; simpa using h2
theorem trim_all_back (hf : faultM (z, l) = 0) (hA : Least (AheadC z l) l.length aa) (hB : Least (BackC l) l.length bs) :
  Least (BackC ((keptL aa bs l.length).map (trimS l (keptL aa bs l.length)))) (keptL aa bs l.length).length (List.replicate (keptL aa bs l.length).length true) := by
 refine all_least ⟨fun q hq _ => by simpa using hq, fun q hq c hc _ => by simpa using hq⟩ (trim_back hf hA hB)
theorem kept_all (n : Nat) : keptL (List.replicate n true) (List.replicate n true) n = (List.range n).map fun q : Nat => (q : Int) := by
 unfold keptL
 congr 1
 rw [List.filter_eq_self]
 intro q hq
 have := el_true.2 (List.mem_range.1 hq)
 simp [this]
theorem place_all {n : Nat} {x : Int} (h1 : -1 ≤ x) (h2 : x < n) : placeI ((List.range n).map fun q : Nat => (q : Int)) x = x := by
 have hp : ((List.range n).map fun q : Nat => (q : Int)).Pairwise (· < ·) := by
  have := keptL_sorted (List.replicate n true) (List.replicate n true) n
  rwa [kept_all] at this
 by_cases e : 0 ≤ x
 ·have h3 : x.toNat < n := by omega
  have := placeI_el hp (i := x.toNat) (by simpa using h3)
  rw [el_range_map (fun q : Nat => (q : Int)) h3] at this
  rw [show ((x.toNat : Nat) : Int) = x by omega] at this
  exact this
 ·rw [placeI_not (by intro h; obtain ⟨q, _, h9⟩ := List.mem_map.1 h; omega)]
  omega
theorem trimA_all {n : Nat} {ar : List Ar} (h : ∀ a ∈ ar, ∃ t : Nat, a.2.2.2 = (t : Int) ∧ t < n) : trimA ((List.range n).map fun q : Nat => (q : Int)) ar = ar := by
 unfold trimA
 have : ar.map (turnA ((List.range n).map fun q : Nat => (q : Int))) = ar := by
  conv => rhs; rw [← List.map_id ar]
  refine List.map_congr_left fun a ha => ?_
  obtain ⟨t, h1, h2⟩ := h a ha
  unfold turnA
  rw [h1, place_all (by omega) (by omega), ← h1]
  rfl
 rw [this, List.filter_eq_self]
 intro a ha
 obtain ⟨t, h1, h2⟩ := h a ha
 simp [h1]
theorem trim_all (hf : faultM (z, l) = 0) : trimM z l (keptL (List.replicate l.length true) (List.replicate l.length true) l.length) = (z, l) := by
 rw [kept_all]
 unfold trimM
 have hz := (faultM_zero hf).2
 simp only [rangeB, Bool.and_eq_true, inB, decide_eq_true_eq] at hz
 rw [place_all (by omega) (by omega)]
 congr 1
 apply el_ext (by simp)
 intro j hj
 have hj' : j < l.length := by simpa using hj
 rw [el_map (by simpa using hj'), el_range_map (fun q : Nat => (q : Int)) hj']
 unfold trimS
 rw [Int.toNat_natCast, trimA_all (fun a ha => to_right hf hj' ha)]
theorem trim_start (hA : Least (AheadC z l) l.length aa) (hB : Least (BackC l) l.length bs) : placeI (keptL aa bs l.length) z < 0 ↔ (keptL aa bs l.length).length = 0 := by
 have hp := keptL_sorted aa bs l.length
 constructor
 ·intro h
  have hz : z ∉ keptL aa bs l.length := fun h9 => by have := (placeI_nonneg hp).2 h9; omega
  by_cases e : (keptL aa bs l.length).length = 0
  ·exact e
  ·obtain ⟨q, hq, hqn, h1, h2⟩ := keptL_mem (el_mem (l := keptL aa bs l.length) (j := 0) (by omega))
   have key := hA.2.2 (fun q => el aa q = true ∧ ¬ el bs q = true) ⟨fun q hq h9 => ?_, fun q hq h9 d hd => ?_⟩ q hqn h1
   ·exact absurd h2 key.2
   ·have h3 := hA.2.1.1 q hq h9
    exact ⟨h3, fun h4 => hz (by rw [← h9]; exact keptL_iff.2 ⟨hq, h3, h4⟩)⟩
   ·exact ⟨hA.2.1.2 q hq h9.1 d hd, fun h4 => h9.2 (hB.2.1.2 q hq d hd h4)⟩
 ·intro h
  have : keptL aa bs l.length = [] := List.eq_nil_of_length_eq_zero h
  rw [this, placeI_not (by simp)]
  omega
end
theorem trimmed_facts {z : Int} {l : List St} {aa bs : List Bool} (hf : faultM (z, l) = 0) (hA : Least (AheadC z l) l.length aa) (hB : Least (BackC l) l.length bs) :
    ∃ (tz : Int) (tl : List St), trimM z l (keptL aa bs l.length) = (tz, tl) ∧ faultM (tz, tl) = 0 ∧ (∀ a, Least (AheadC tz tl) tl.length a → a = List.replicate tl.length true) ∧ (∀ b, Least (BackC tl) tl.length b → b = List.replicate tl.length true) ∧
      (∀ a b, Least (AheadC tz tl) tl.length a → Least (BackC tl) tl.length b → trimM tz tl (keptL a b tl.length) = (tz, tl)) ∧ (tz < 0 ↔ tl.length = 0) ∧ tl.length ≤ l.length := by
  have hl : ((keptL aa bs l.length).map (trimS l (keptL aa bs l.length))).length = (keptL aa bs l.length).length := List.length_map _
  have h1 := trim_all_ahead hf hA hB
  have h2 := trim_all_back hf hA hB
  have h3 := trim_fault (aa := aa) (bs := bs) hf
  have h4 := trim_start hA hB
  rw [← hl] at h1 h2 h4
  refine ⟨_, _, rfl, h3, fun a ha => ha.one h1, fun b hb => hb.one h2, fun a b ha hb => ?_, h4, by rw [hl]; exact keptL_le _ _ _⟩
  rw [ha.one h1, hb.one h2]
  exact trim_all h3
end Go.Proofs.YthajkkobgfighaaGreatDoor.Pl
