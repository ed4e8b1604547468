/- The n cheapest ways from one place to all others, found one by one, the cheapest that waits first (no program in sight). -/
import Derived.Test.YtobhjhjfannnnaaUad
import Derived.Test.YtobhjhjfannnnaaUac
namespace Go.Proofs.Ytobhjhjfannnnaa.Pl
set_option linter.unusedVariables false
set_option linter.unusedSimpArgs false
theorem sumN_le {α : Type} {L : List α} {f g : α → Nat} (h : ∀ a ∈ L, f a ≤ g a) : (L.map f).sum ≤ (L.map g).sum := by
  induction L with
  | nil => exact Nat.le_refl _
  | cons a L ih =>
    have h1 := h a (List.mem_cons_self ..)
    have h2 := ih fun b hb => h b (List.mem_cons_of_mem _ hb)
    simp only [List.map_cons, List.sum_cons]; omega
theorem sumN_min {α : Type} {n : Nat} {L : List α} {f g : α → Nat} (h : ∀ a ∈ L, min n (f a) ≤ g a) : min n (L.map f).sum ≤ (L.map g).sum := by
  induction L with
  | nil => simp
  | cons a L ih =>
    have h1 := h a (List.mem_cons_self ..)
    have h2 := ih fun b hb => h b (List.mem_cons_of_mem _ hb)
    simp only [List.map_cons, List.sum_cons]; omega
theorem sumN_swap {α β : Type} (L : List α) (R : List β) (f : α → β → Nat) : (L.map fun a => (R.map fun b => f a b).sum).sum = (R.map fun b => (L.map fun a => f a b).sum).sum := by
  induction L with
  | nil =>
    simp only [List.map_nil, List.sum_nil]
    exact (sum_none fun _ _ => rfl).symm
  | cons a L ih =>
    simp only [List.map_cons, List.sum_cons, ih]
    rw [← sum_add]
theorem sumN_one {N q : Nat} (hq : q < N) (e : Nat → Nat) : ((List.range N).map fun j => if j = q then e j else 0).sum = e q := by
  induction N with
  | zero => omega
  | succ N ih =>
    rw [List.range_succ, List.map_append, List.sum_append]
    simp only [List.map_cons, List.map_nil, List.sum_cons, List.sum_nil, Nat.add_zero]
    by_cases h : q = N
    · subst h
      rw [if_pos rfl, sum_none fun j hj => if_neg (by have := List.mem_range.1 hj; omega), Nat.zero_add]
    · rw [ih (by omega), if_neg (Ne.symm h), Nat.add_zero]
def hC (H : List Ar) (p : Nat) (c : Int) : Nat := H.countP fun x => decide (x.1 = (p : Int)) && decide (x.2.2.2 ≤ c)
def sumS (st : List (List Ar)) (p : Nat) (g : Nat → Int → Nat) : Nat := ((List.range st.length).map fun q => ((el st q).map fun s => if s.1 = (p : Int) then g q s.2.2.2 else 0).sum).sum
def atS (start p : Nat) (c : Int) : Nat := if p = start ∧ 0 ≤ c then 1 else 0
def gC (st : List (List Ar)) (start : Nat) (F : List (List Int)) (p : Nat) (c : Int) : Nat := atS start p c + sumS st p fun q w => cLe (el F q) (c - w)
def wC (st : List (List Ar)) (start : Nat) : Nat → Nat → Int → Nat
 | 0 => fun _ _ => 0
 | k + 1 => fun p c => atS start p c + sumS st p fun q w => wC st start k q (c - w)
section
variable {st : List (List Ar)} {start n : Nat}
theorem sumS_le {p : Nat} {g h : Nat → Int → Nat} (hgh : ∀ q, q < st.length → ∀ s ∈ el st q, g q s.2.2.2 ≤ h q s.2.2.2) : sumS st p g ≤ sumS st p h :=
 sumN_le fun q hq => sumN_le fun s hs => by
  split
  ·exact hgh q (List.mem_range.1 hq) s hs
  ·exact Nat.le_refl _
theorem sumS_min {p : Nat} {g h : Nat → Int → Nat} (hgh : ∀ q, q < st.length → ∀ s ∈ el st q, min n (g q s.2.2.2) ≤ h q s.2.2.2) : min n (sumS st p g) ≤ sumS st p h :=
 sumN_min fun q hq => sumN_min fun s hs => by
  split
  ·exact hgh q (List.mem_range.1 hq) s hs
  ·simp
theorem sumS_congr {p : Nat} {g h : Nat → Int → Nat} (hgh : ∀ q, q < st.length → ∀ s ∈ el st q, g q s.2.2.2 = h q s.2.2.2) : sumS st p g = sumS st p h :=
 Nat.le_antisymm (sumS_le fun q hq s hs => Nat.le_of_eq (hgh q hq s hs)) (sumS_le fun q hq s hs => Nat.le_of_eq (hgh q hq s hs).symm)
theorem sumS_add {p : Nat} {g h : Nat → Int → Nat} : sumS st p (fun q w => g q w + h q w) = sumS st p g + sumS st p h := by
 unfold sumS
 rw [← sum_add]
 congr 1
 refine List.map_congr_left fun q _ => ?_
 rw [← sum_add]
 congr 1
 refine List.map_congr_left fun s _ => ?_
 split <;> rfl
theorem sumS_at {p q : Nat} (hq : q < st.length) (e : Int → Nat) : sumS st p (fun j w => if j = q then e w else 0) = ((el st q).map fun s => if s.1 = (p : Int) then e s.2.2.2 else 0).sum := by
 unfold sumS
 rw [← sumN_one hq fun j => ((el st j).map fun s => if s.1 = (p : Int) then e s.2.2.2 else 0).sum]
 congr 1
 refine List.map_congr_left fun j _ => ?_
 by_cases h : j = q
 ·subst h
  rw [if_pos rfl]
  simp only [if_pos]
 ·rw [if_neg h]
  refine sum_none fun s _ => ?_
  simp only [if_neg h]
  split <;> rfl
def totF (F : List (List Int)) : Nat := (F.map List.length).sum
theorem totF_set {F : List (List Int)} {q : Nat} (hq : q < F.length) (x : Int) : totF (F.set q (el F q ++ [x])) = totF F + 1 := by
  unfold totF
  induction F generalizing q with
  | nil => cases hq
  | cons a F ih =>
    cases q with
    | zero =>
      rw [List.set_cons_zero]
      simp only [List.map_cons, List.sum_cons, el_zero, List.length_append, List.length_singleton]
      omega
    | succ q =>
      rw [List.set_cons_succ]
      have h := ih (q := q) (by simpa using hq)
      have e : el (a :: F) (q + 1) = el F q := by simp [el]
      rw [e]
      simp only [List.map_cons, List.sum_cons]
      omega
theorem totF_le {F : List (List Int)} (h : ∀ p, p < F.length → (el F p).length ≤ n) : totF F ≤ F.length * n := by
  unfold totF
  induction F with
  | nil => simp
  | cons a F ih =>
    have h0 := h 0 (by simp)
    rw [el_zero] at h0
    have h1 := ih fun p hp => by
      have := h (p + 1) (by simpa using hp)
      have e : el (a :: F) (p + 1) = el F p := by simp [el]
      rw [e] at this; exact this
    rw [List.map_cons, List.sum_cons, List.length_cons, Nat.succ_mul]
    omega
theorem el_setF {F : List (List Int)} {q j : Nat} (hq : q < F.length) (v : List Int) : el (F.set q v) j = if j = q then v else el F j := by
 by_cases h : j = q
 ·subst h; rw [if_pos rfl, el_get (by simpa using hq)]; simp
 ·rw [if_neg h]; simp [el, List.getElem?_set_ne (Ne.symm h)]
structure CwI (CAP : Int) (st : List (List Ar)) (n start : Nat) (F : List (List Int)) (H : List Ar) : Prop where
 len : F.length = st.length
 few : ∀ p, p < st.length → (el F p).length ≤ n
 hto : ∀ x ∈ H, ∃ t : Nat, x.1 = (t : Int) ∧ t < st.length
 ord : ∀ p, p < st.length → ∀ y ∈ el F p, ∀ x ∈ H, y ≤ x.2.2.2
 ris : ∀ p, p < st.length → RisL (el F p)
 up : ∀ p, p < st.length → ∀ c, c < CAP → cLe (el F p) c + hC H p c ≤ gC st start F p c
 lo : ∀ p, p < st.length → ∀ c, c < CAP → min n (gC st start F p c) ≤ cLe (el F p) c + hC H p c
 wk : ∀ p, p < st.length → ∀ c, c < CAP → cLe (el F p) c + hC H p c ≤ wC st start (totF F + 1) p c
theorem hC_perm {H H' : List Ar} (h : H.Perm H') (p : Nat) (c : Int) : hC H p c = hC H' p c := h.countP_eq _
theorem hC_cons (x : Ar) (H : List Ar) (p : Nat) (c : Int) : hC (x :: H) p c = hC H p c + if x.1 = (p : Int) ∧ x.2.2.2 ≤ c then 1 else 0 := by
 unfold hC
 rw [List.countP_cons]
 by_cases h1 : x.1 = (p : Int) <;> by_cases h2 : x.2.2.2 ≤ c <;> simp [h1, h2]
theorem hC_app (H R : List Ar) (p : Nat) (c : Int) : hC (H ++ R) p c = hC H p c + hC R p c := by
 unfold hC
 rw [List.countP_append]
theorem hC_map (L : List Ar) (bk : Int → Int) (p : Nat) (c : Int) : hC (L.map fun s => (s.1, 0, 0, bk s.2.2.2)) p c = (L.map fun s => if s.1 = (p : Int) then (if bk s.2.2.2 ≤ c then 1 else 0) else 0).sum := by
  induction L with
  | nil => rfl
  | cons s L ih =>
    rw [List.map_cons, hC_cons, ih, List.map_cons, List.sum_cons]
    by_cases h1 : s.1 = (p : Int) <;> by_cases h2 : bk s.2.2.2 ≤ c <;> simp [h1, h2] <;> omega
theorem CwI.perm {CAP : Int} {F : List (List Int)} {H H' : List Ar} (h : CwI CAP st n start F H) (e : H'.Perm H) : CwI CAP st n start F H' :=
 ⟨h.len, h.few, fun x hx => h.hto x (e.mem_iff.1 hx), fun p hp y hy x hx => h.ord p hp y hy x (e.mem_iff.1 hx), h.ris, fun p hp c hc => by rw [hC_perm e]; exact h.up p hp c hc, fun p hp c hc => by rw [hC_perm e]; exact h.lo p hp c hc, fun p hp c hc => by rw [hC_perm e]; exact h.wk p hp c hc⟩
theorem el_nils (N j : Nat) : el (List.replicate N ([] : List Int)) j = [] := by
 by_cases h : j < N
 ·simp [el, h]
 ·simp [el, h]; rfl
theorem CwI.begin {CAP : Int} (hs : start < st.length) : CwI CAP st n start (List.replicate st.length []) [((start : Int), 0, 0, 0)] := by
 have hh : ∀ p c, hC [((start : Int), (0 : Int), (0 : Int), (0 : Int))] p c = atS start p c := fun p c => by
  rw [hC_cons]
  unfold atS
  have h0 : hC [] p c = 0 := rfl
  rw [h0, Nat.zero_add]
  by_cases h1 : p = start
  ·subst h1; simp
  ·have : ¬ (start : Int) = (p : Int) := by omega
   simp [h1, this]
 have hz : ∀ p (g : Nat → Int → Nat), (∀ q w, g q w = 0) → sumS st p g = 0 := fun p g hg => sum_none fun q _ => sum_none fun s _ => by rw [hg]; split <;> rfl
 have hn : ∀ c, cLe [] c = 0 := fun _ => rfl
 have hg : ∀ p c, gC st start (List.replicate st.length []) p c = atS start p c := fun p c => by
  unfold gC
  rw [hz p _ fun q w => by rw [el_nils]; rfl, Nat.add_zero]
 refine ⟨by simp, fun p _ => by rw [el_nils]; simp, fun x hx => ?_, fun p _ y hy => absurd hy (by rw [el_nils]; simp), fun p _ => by rw [el_nils]; exact List.Pairwise.nil, fun p _ c _ => ?_, fun p _ c _ => ?_, fun p _ c _ => ?_⟩
 ·rw [List.mem_singleton] at hx
  subst hx
  exact ⟨start, rfl, hs⟩
 ·rw [el_nils, hh, hg, hn]; omega
 ·rw [el_nils, hh, hg, hn]; omega
 ·rw [el_nils, hh, hn]
  show _ ≤ atS start p c + _
  omega
theorem cLe_neg1 {F : List (List Int)} {q : Nat} (hq : q < F.length) (x : Int) (j : Nat) (c : Int) : cLe (el (F.set q (el F q ++ [x])) j) c = cLe (el F j) c + if j = q then (if x ≤ c then 1 else 0) else 0 := by
 rw [el_setF hq]
 by_cases h : j = q
 ·subst h
  rw [if_pos rfl, if_pos rfl]
  unfold cLe
  rw [List.countP_append]
  simp
 ·rw [if_neg h, if_neg h, Nat.add_zero]
theorem CwI.find {CAP : Int} {F : List (List Int)} {H : List Ar} {x : Ar} {q : Nat} (h : CwI CAP st n start F (x :: H)) (hx : x.1 = (q : Int)) (hl : (el F q).length < n) (hmin : ∀ y ∈ H, x.2.2.2 ≤ y.2.2.2) (hw : ∀ j, j < st.length → ∀ s ∈ el st j, 0 ≤ s.2.2.2 ∧ ∃ t : Nat, s.1 = (t : Int) ∧ t < st.length) (bk : Int → Int) (hbk : ∀ s ∈ el st q, x.2.2.2 ≤ bk s.2.2.2 ∧ ∀ c, c < CAP → (bk s.2.2.2 ≤ c ↔ x.2.2.2 + s.2.2.2 ≤ c)) :
  CwI CAP st n start (F.set q (el F q ++ [x.2.2.2])) (H ++ (el st q).map fun s => (s.1, 0, 0, bk s.2.2.2)) := by
 obtain ⟨t, e, hq⟩ := h.hto x (List.mem_cons_self ..)
 have eq : t = q := by omega
 subst eq
 have hqF : t < F.length := by rw [h.len]; exact hq
 -- as many more are made as wait anew
 have hE : ∀ p c, c < CAP → hC ((el st t).map fun s => (s.1, 0, 0, bk s.2.2.2)) p c = ((el st t).map fun s => if s.1 = (p : Int) then (if x.2.2.2 ≤ c - s.2.2.2 then 1 else 0) else 0).sum := fun p c hc => by
  rw [hC_map]
  congr 1
  refine List.map_congr_left fun s hs => ?_
  have := (hbk s hs).2 c hc
  by_cases h1 : bk s.2.2.2 ≤ c
  ·rw [if_pos h1, if_pos (show x.2.2.2 ≤ c - s.2.2.2 by have := this.1 h1; omega)]
  ·rw [if_neg h1, if_neg (show ¬ x.2.2.2 ≤ c - s.2.2.2 from fun g => h1 (this.2 (by omega)))]
 have hG : ∀ p c, gC st start (F.set t (el F t ++ [x.2.2.2])) p c = gC st start F p c + ((el st t).map fun s => if s.1 = (p : Int) then (if x.2.2.2 ≤ c - s.2.2.2 then 1 else 0) else 0).sum := fun p c => by
  unfold gC
  rw [← sumS_at hq fun w => if x.2.2.2 ≤ c - w then 1 else 0, Nat.add_assoc, ← sumS_add]
  congr 1
  exact sumS_congr fun j _ s _ => cLe_neg1 hqF _ _ _
 have hH : ∀ p c, c < CAP → cLe (el (F.set t (el F t ++ [x.2.2.2])) p) c + hC (H ++ (el st t).map fun s => (s.1, 0, 0, bk s.2.2.2)) p c = (cLe (el F p) c + hC (x :: H) p c) + ((el st t).map fun s => if s.1 = (p : Int) then (if x.2.2.2 ≤ c - s.2.2.2 then 1 else 0) else 0).sum := fun p c hc => by
  rw [cLe_neg1 hqF, hC_app, hE p c hc, hC_cons, e]
  by_cases h1 : p = t
  ·subst h1
   by_cases h2 : x.2.2.2 ≤ c <;> simp [h2] <;> omega
  ·have h3 : ¬ (t : Int) = (p : Int) := by omega
   simp [h1, h3]; omega
 have hup : ∀ p, p < st.length → ∀ c, c < CAP → cLe (el (F.set t (el F t ++ [x.2.2.2])) p) c + hC (H ++ (el st t).map fun s => (s.1, 0, 0, bk s.2.2.2)) p c ≤ gC st start (F.set t (el F t ++ [x.2.2.2])) p c := fun p hp c hc => by
  rw [hH p c hc, hG]
  have := h.up p hp c hc
  omega
 refine ⟨by rw [List.length_set]; exact h.len, fun p hp => ?_, fun y hy => ?_, fun p hp y hy z hz => ?_, fun p hp => ?_, hup, fun p hp c hc => ?_, fun p hp c hc => ?_⟩
 ·rw [el_setF hqF]
  split
  ·simp; omega
  ·exact h.few p hp
 ·rcases List.mem_append.1 hy with hy | hy
  ·exact h.hto y (List.mem_cons_of_mem _ hy)
  ·obtain ⟨s, hs, rfl⟩ := List.mem_map.1 hy
   exact (hw t hq s hs).2
 ·have hzx : x.2.2.2 ≤ z.2.2.2 := by
   rcases List.mem_append.1 hz with hz | hz
   ·exact hmin z hz
   ·obtain ⟨s, hs, rfl⟩ := List.mem_map.1 hz
    exact (hbk s hs).1
  rw [el_setF hqF] at hy
  split at hy
  ·rename_i e1
   rcases List.mem_append.1 hy with hy | hy
   ·have := h.ord t hq y hy x (List.mem_cons_self ..); omega
   ·rw [List.mem_singleton.1 hy]; exact hzx
  ·have := h.ord p hp y hy x (List.mem_cons_self ..); omega
 ·rw [el_setF hqF]
  split
  ·refine List.pairwise_append.2 ⟨h.ris t hq, List.pairwise_singleton _ _, fun y hy z hz => ?_⟩
   rw [List.mem_singleton.1 hz]
   exact h.ord t hq y hy x (List.mem_cons_self ..)
  ·exact h.ris p hp
 ·rw [hH p c hc, hG]
  have := h.lo p hp c hc
  omega
 ·refine Nat.le_trans (hup p hp c hc) ?_
  rw [totF_set hqF]
  show atS start p c + _ ≤ atS start p c + _
  refine Nat.add_le_add_left (sumS_le fun j hj s hs => ?_) _
  have hc2 : c - s.2.2.2 < CAP := by have := (hw j hj s hs).1; omega
  refine Nat.le_trans ?_ (h.wk j hj _ hc2)
  rw [cLe_neg1 hqF, hC_cons, e]
  by_cases h1 : j = t
  ·subst h1
   by_cases h2 : x.2.2.2 ≤ c - s.2.2.2 <;> simp [h2] <;> omega
  ·rw [if_neg h1]; omega
theorem CwI.drop {CAP : Int} {F : List (List Int)} {H : List Ar} {x : Ar} {q : Nat} (h : CwI CAP st n start F (x :: H)) (hx : x.1 = (q : Int)) (hl : (el F q).length = n) : CwI CAP st n start F H := by
 obtain ⟨t, e, hq⟩ := h.hto x (List.mem_cons_self ..)
 have eq : t = q := by omega
 subst eq
 have hle : ∀ p c, hC H p c ≤ hC (x :: H) p c := fun p c => by rw [hC_cons]; omega
 refine ⟨h.len, h.few, fun y hy => h.hto y (List.mem_cons_of_mem _ hy), fun p hp y hy z hz => h.ord p hp y hy z (List.mem_cons_of_mem _ hz), h.ris, fun p hp c hc => ?_, fun p hp c hc => ?_, fun p hp c hc => ?_⟩
 ·have := h.up p hp c hc; have := hle p c; omega
 ·have h1 := h.lo p hp c hc
  rw [hC_cons] at h1
  by_cases h2 : x.1 = (p : Int) ∧ x.2.2.2 ≤ c
  ·have ep : p = t := by omega
   subst ep
   have h3 : cLe (el F p) c = n := by
    rw [← hl]
    unfold cLe
    refine List.countP_eq_length.2 fun y hy => ?_
    have := h.ord p hp y hy x (List.mem_cons_self ..)
    simp; omega
   omega
  ·rw [if_neg h2] at h1
   exact h1
 ·have := h.wk p hp c hc; have := hle p c; omega
theorem wC_succ (k p : Nat) (c : Int) : wC st start (k + 1) p c = atS start p c + sumS st p fun q w => wC st start k q (c - w) := rfl
theorem wC_mono {j k : Nat} (h : j ≤ k) : ∀ p c, wC st start j p c ≤ wC st start k p c := by
  induction j generalizing k with
  | zero => intro p c; exact Nat.zero_le _
  | succ j ih =>
    intro p c
    cases k with
    | zero => omega
    | succ k =>
      rw [wC_succ, wC_succ]
      exact Nat.add_le_add_left (sumS_le (g := fun q w => wC st start j q (c - w)) (h := fun q w => wC st start k q (c - w)) fun q _ s _ => ih (Nat.le_of_succ_le_succ h) q (c - s.2.2.2)) _
theorem CwI.done {CAP : Int} {F : List (List Int)} (h : CwI CAP st n start F []) (hw : ∀ j, j < st.length → ∀ s ∈ el st j, 0 ≤ s.2.2.2 ∧ ∃ t : Nat, s.1 = (t : Int) ∧ t < st.length) {k : Nat} (hk : st.length * n + 1 ≤ k) : ∀ p, p < st.length → ∀ c, c < CAP → cLe (el F p) c = min n (wC st start k p c) := by
  have h0 : ∀ p c, hC [] p c = 0 := fun _ _ => rfl
  have hlow : ∀ k p, p < st.length → ∀ c, c < CAP → min n (wC st start k p c) ≤ cLe (el F p) c := by
    intro k
    induction k with
    | zero => intro p hp c hc; show min n 0 ≤ _; omega
    | succ k ih =>
      intro p hp c hc
      have h1 := h.lo p hp c hc
      rw [h0, Nat.add_zero] at h1
      refine Nat.le_trans ?_ h1
      have h2 : min n (sumS st p fun q w => wC st start k q (c - w)) ≤ sumS st p fun q w => cLe (el F q) (c - w) := sumS_min fun q hq s hs => ih q hq _ (by have := (hw q hq s hs).1; omega)
      rw [wC_succ]
      unfold gC
      omega
  intro p hp c hc
  have h1 := hlow k p hp c hc
  have h2 := h.wk p hp c hc
  rw [h0, Nat.add_zero] at h2
  have h3 : totF F ≤ st.length * n := by
    have := totF_le (n := n) (F := F) fun p hp => h.few p (by rw [← h.len]; exact hp)
    rw [h.len] at this; exact this
  have h4 := wC_mono (st := st) (start := start) (j := totF F + 1) (k := k) (by omega) p c
  have h5 := h.few p hp
  have h6 := cLe_len (el F p) c
  omega
theorem wC_front (hs : ∀ j, j < st.length → ∀ s ∈ el st j, ∃ t : Nat, s.1 = (t : Int) ∧ t < st.length) : ∀ {k start : Nat}, start < st.length → ∀ p c, wC st start (k + 1) p c = atS start p c + ((el st start).map fun s => wC st s.1.toNat k p (c - s.2.2.2)).sum
  | 0, start, h0, p, c => by
    rw [wC_succ]
    congr 1
    have e1 : sumS st p (fun q w => wC st start 0 q (c - w)) = 0 := sum_none fun q _ => sum_none fun s _ => by split <;> rfl
    rw [e1]
    exact (sum_none fun s _ => rfl).symm
  | k + 1, start, h0, p, c => by
    rw [wC_succ]
    congr 1
    have e1 : sumS st p (fun q w => wC st start (k + 1) q (c - w)) = sumS st p (fun q w => atS start q (c - w)) + sumS st p fun q w => ((el st start).map fun s => wC st s.1.toNat k q (c - w - s.2.2.2)).sum := by
      rw [← sumS_add]
      exact sumS_congr fun q _ s _ => wC_front hs h0 _ _
    have e2 : sumS st p (fun q w => atS start q (c - w)) = ((el st start).map fun s => if s.1 = (p : Int) then (if 0 ≤ c - s.2.2.2 then 1 else 0) else 0).sum := by
      rw [← sumS_at h0 fun w => if 0 ≤ c - w then 1 else 0]
      refine sumS_congr fun q _ s _ => ?_
      unfold atS
      by_cases h1 : q = start <;> by_cases h2 : 0 ≤ c - s.2.2.2 <;> simp [h1, h2]
    have e3 : sumS st p (fun q w => ((el st start).map fun s => wC st s.1.toNat k q (c - w - s.2.2.2)).sum) = ((el st start).map fun s => sumS st p fun q w => wC st s.1.toNat k q (c - s.2.2.2 - w)).sum := by
      unfold sumS
      rw [sumN_swap]
      congr 1
      refine List.map_congr_left fun q _ => ?_
      rw [sumN_swap]
      congr 1
      refine List.map_congr_left fun s _ => ?_
      by_cases h1 : s.1 = (p : Int)
      · simp only [if_pos h1]
        congr 1
        refine List.map_congr_left fun s' _ => ?_
        rw [show c - s.2.2.2 - s'.2.2.2 = c - s'.2.2.2 - s.2.2.2 by omega]
      · simp only [if_neg h1]
        exact (sum_none fun s' _ => rfl).symm
    rw [e1, e2, e3, ← sum_add]
    congr 1
    refine List.map_congr_left fun s hs2 => ?_
    rw [wC_succ]
    congr 1
    obtain ⟨t, e, ht⟩ := hs start h0 s hs2
    unfold atS
    rw [e, Int.toNat_natCast]
    by_cases h1 : p = t
    · subst h1
      by_cases h2 : 0 ≤ c - s.2.2.2 <;> simp [h2]
    · have h3 : ¬ (t : Int) = (p : Int) := by omega
      simp [h1, h3]
end
theorem set_less {cs : List Int} {k : Nat} {c : Int} (hk : k < cs.length) (h : c < el cs k) (j : Nat) : el (cs.set k c) j ≤ el cs j := by
 rw [el_setT hk]
 split
 ·rename_i e; rw [e]; omega
 ·omega
theorem EndT.relax {l : List St} {cs : List Int} (h : EndT l cs) {q j w : Nat} (e : ArcE l q w j) (hj : j < l.length) (hn : el cs j < noneI) (hlt : el cs j + (w : Int) < el cs q) : EndT l (cs.set q (el cs j + (w : Int))) := by
 have hql := arcE_in e
 have hqc : q < cs.length := by rw [h.len]; exact hql
 have h0 := h.rng j hj
 refine ⟨by rw [List.length_set]; exact h.len, fun i hi => ?_, fun i hi hi2 => ?_⟩
 ·rw [el_setT hqc]
  split
  ·have := h.rng q hql; omega
  ·exact h.rng i hi
 ·rw [el_setT hqc] at hi2 ⊢
  split
  ·rename_i e2
   subst e2
   obtain ⟨n, p, d, hr, hp, hf, hc⟩ := h.run j hj hn
   exact ⟨n + 1, p, w + d, Run.first e hr, hp, hf, by omega⟩
  ·rename_i e2
   rw [if_neg e2] at hi2
   exact h.run i hi hi2
theorem arcE_small {m : Mc} (h : faultM m = 0) {k w j : Nat} (e : ArcE m.2 k w j) : j < m.2.length ∧ w ≤ 1000000000 := by
 obtain ⟨a, ha, e1, rfl⟩ := e
 have h1 := (right_parts h).2 _ (el_mem (el_in ha))
 simp only [stB, Bool.and_eq_true, List.all_eq_true] at h1
 have h2 := h1.2 _ ha
 simp only [arcB, inB, Bool.and_eq_true, decide_eq_true_eq] at h2
 omega
theorem run_small {m : Mc} (h : faultM m = 0) {s n k c : Nat} (hr : Run (ArcE m.2) s n k c) (hn : n ≤ 60) : c ≤ 60000000000 := by
 have h1 := hr.cost (W := 1000000000) (fun k w j e => (arcE_small h e).2)
 have h2 : n * 1000000000 ≤ 60 * 1000000000 := Nat.mul_le_mul_right _ hn
 omega
def TldQ (P : Nat → Prop) (b : Int) : Prop := (b = noneI ∧ ∀ c, ¬ P c) ∨ ∃ c : Nat, LeastP P c ∧ b = (c : Int) ∧ c ≤ 100000000000
theorem FarT.told {m : Mc} {cs : List Int} (hf : faultM m = 0) (h : FarT m.1 m.2 cs) (hle : FarLe m.1 m.2 m.2.length cs) {q : Nat} (hq : q < m.2.length) : TldQ (FarC m.1 m.2 q) (el cs q) := by
 have h60 := (right_size (z := m.1) (l := m.2) hf).1
 obtain ⟨⟨hz1, hz2⟩, _⟩ := right_parts hf
 have low : ∀ c, FarC m.1 m.2 q c → ∃ d, d ≤ c ∧ d ≤ 60000000000 ∧ el cs q ≤ (d : Int) := by
  rintro c ⟨hz, n, hr⟩
  obtain ⟨n', d, hn, hd, hr'⟩ := hr.cheap (N := m.2.length) (by omega) (fun k w j e => (arcE_small hf e).1)
  exact ⟨d, hd, run_small hf hr' (by omega), hle n' q d (by omega) hz hr'⟩
 have hrng := h.rng q hq
 by_cases g : el cs q < noneI
 ·have h1 := h.run q hq g
  obtain ⟨d, hd, hb, hl⟩ := low _ h1
  refine .inr ⟨(el cs q).toNat, ⟨h1, fun c hc => ?_⟩, by omega, by omega⟩
  obtain ⟨d', hd', _, hl'⟩ := low c hc
  omega
 ·refine .inl ⟨by omega, fun c hc => ?_⟩
  obtain ⟨d, hd, hb, hl⟩ := low c hc
  unfold noneI at g
  omega
theorem EndT.told {m : Mc} {cs : List Int} (hf : faultM m = 0) (h : EndT m.2 cs) (hle : EndLe m.2 m.2.length cs) {q : Nat} (hq : q < m.2.length) : TldQ (EndC m.2 q) (el cs q) := by
 have h60 := (right_size (z := m.1) (l := m.2) hf).1
 have fin : ∀ p, p < m.2.length → (el m.2 p).1 ≠ 1000000001 → 0 ≤ (el m.2 p).1 ∧ (el m.2 p).1 ≤ 1000000000 := fun p hp hn => by
  have h1 := stB_fin ((right_parts hf).2 _ (el_mem hp))
  simp [finB, inB] at h1
  omega
 have low : ∀ c, EndC m.2 q c → ∃ d, d ≤ c ∧ d ≤ 61000000000 ∧ el cs q ≤ (d : Int) := by
  rintro c ⟨n, p, d, hr, hp, hn, rfl⟩
  obtain ⟨n', d', hn', hd, hr'⟩ := hr.cheap (N := m.2.length) hq (fun k w j e => (arcE_small hf e).1)
  have h1 := run_small hf hr' (by omega)
  have h2 := hle n' q p d' (by omega) hr' hp hn
  have h3 := fin p hp hn
  exact ⟨d' + (el m.2 p).1.toNat, by omega, by omega, by omega⟩
 have hrng := h.rng q hq
 by_cases g : el cs q < noneI
 ·have h1 := h.run q hq g
  obtain ⟨d, hd, hb, hl⟩ := low _ h1
  refine .inr ⟨(el cs q).toNat, ⟨h1, fun c hc => ?_⟩, by omega, by omega⟩
  obtain ⟨d', hd', _, hl'⟩ := low c hc
  omega
 ·refine .inl ⟨by omega, fun c hc => ?_⟩
  obtain ⟨d, hd, hb, hl⟩ := low c hc
  unfold noneI at g
  omega
def LstAns (P : Nat → Nat → Prop) (N : Nat) (vs : List Int) (e : Int) : Prop := (e = 0 ∧ vs.length = N ∧ ∀ q, q < N → WghAns (P q) (el vs q) 0) ∨ (e = 4 ∧ vs = [] ∧ ∃ q, q < N ∧ WghAns (P q) 0 4)
theorem LstAns.one {P : Nat → Nat → Prop} {N : Nat} {vs ws : List Int} {e f : Int} (h : LstAns P N vs e) (k : LstAns P N ws f) : vs = ws ∧ e = f := by
 rcases h with ⟨rfl, h1, h2⟩ | ⟨rfl, rfl, q, hq, h3⟩ <;> rcases k with ⟨rfl, k1, k2⟩ | ⟨rfl, rfl, p, hp, k3⟩
 ·refine ⟨el_ext (by omega) fun j hj => ?_, rfl⟩
  exact ((h2 j (by omega)).one (k2 j (by omega))).1
 ·exact absurd ((h2 p hp).one k3).2 (by decide)
 ·exact absurd (h3.one (k2 q hq)).2 (by decide)
 ·exact ⟨rfl, rfl⟩
def tldN (b : Int) : Int := if b = noneI then 1000000001 else if 1000000000 < b then 0 else b
def tldE (b : Int) : Int := if b = noneI then 0 else if 1000000000 < b then 4 else 0
theorem TldQ.wgh {P : Nat → Prop} {b : Int} (h : TldQ P b) : WghAns P (tldN b) (tldE b) := by
 have : ChpAns P b := by
  rcases h with h | ⟨c, hc, hb, hl⟩
  ·exact .inl h
  ·exact .inr ⟨c, hc, hb, by omega⟩
 exact this.wgh
theorem lst_ok {P : Nat → Nat → Prop} {cs : List Int} (h : ∀ q, q < cs.length → TldQ (P q) (el cs q)) (hb : ∀ q, q < cs.length → tldE (el cs q) = 0) : LstAns P cs.length (cs.map tldN) 0 := by
 refine .inl ⟨rfl, by simp, fun q hq => ?_⟩
 have := (h q hq).wgh
 rw [hb q hq] at this
 rw [el_map hq]
 exact this
theorem lst_no {P : Nat → Nat → Prop} {cs : List Int} (h : ∀ q, q < cs.length → TldQ (P q) (el cs q)) {q : Nat} (hq : q < cs.length) (hb : tldE (el cs q) ≠ 0) : LstAns P cs.length [] 4 := by
 refine .inr ⟨rfl, rfl, q, hq, ?_⟩
 have h1 := (h q hq).wgh
 have h2 : tldE (el cs q) = 4 ∧ tldN (el cs q) = 0 := by
  unfold tldE at hb
  unfold tldE tldN
  split at hb
  ·exact absurd rfl hb
  ·rename_i e1
   split at hb
   ·rename_i e2
    rw [if_neg e1, if_pos e2, if_neg e1, if_pos e2]
    exact ⟨rfl, rfl⟩
   ·exact absurd rfl hb
 rw [h2.1, h2.2] at h1
 exact h1
theorem fin_small {m : Mc} (hf : faultM m = 0) {p : Nat} (hp : p < m.2.length) (hn : (el m.2 p).1 ≠ 1000000001) : 0 ≤ (el m.2 p).1 ∧ (el m.2 p).1 ≤ 1000000000 := by
 have h1 := stB_fin ((right_parts hf).2 _ (el_mem hp))
 simp [finB, inB] at h1
 omega
def endI (f : Int) : Int := if f = 1000000001 then noneI else f
theorem endT_start {m : Mc} (hf : faultM m = 0) {cs : List Int} (hl : cs.length = m.2.length) (h : ∀ q, q < m.2.length → el cs q = endI (el m.2 q).1) : EndT m.2 cs ∧ EndTo m.2 0 0 cs := by
 refine ⟨⟨hl, fun q hq => ?_, fun q hq hn => ?_⟩, fun n q p d hn hr hp hfi => ?_, fun n q' w j p d _ hq => absurd hq (by omega)⟩
 ·rw [h q hq]
  unfold endI
  split
  ·unfold noneI; omega
  ·rename_i g
   have := fin_small hf hq g
   unfold noneI; omega
 ·rw [h q hq] at hn ⊢
  unfold endI at hn ⊢
  split at hn
  ·omega
  ·rename_i g
   rw [if_neg g]
   exact ⟨0, q, 0, .nil, hq, g, by omega⟩
 ·obtain rfl : n = 0 := by omega
  cases hr
  rw [h q hp]
  unfold endI
  rw [if_neg hfi]
  omega
theorem endHb {m : Mc} (hf : faultM m = 0) {k : Nat} {cs : List Int} (hk : k ≤ 60) (h : EndLe m.2 k cs) : ∀ n j p d, n ≤ k → Run (ArcE m.2) j n p d → p < m.2.length → (el m.2 p).1 ≠ 1000000001 → el cs j < noneI := fun n j p d hn hr hp hfi => by
 have h1 := h n j p d hn hr hp hfi
 have h2 := run_small hf hr (by omega)
 have h3 := fin_small hf hp hfi
 unfold noneI
 omega
def ClsE (cs : List Int) (q : Nat) (ar : List Ar) (t : Nat) : Prop := ∀ s, s < t → ∀ j : Nat, (el ar s).2.2.2 = (j : Int) → el cs j < noneI → el cs q ≤ el cs j + ((el ar s).2.2.1.toNat : Int)
theorem ClsE.set {cs : List Int} {q t : Nat} {ar : List Ar} {c : Int} (h : ClsE cs q ar t) (hq : q < cs.length) (hlt : c < el cs q) : ClsE (cs.set q c) q ar t := by
 intro s hs j hj hn
 rw [el_setT hq, el_setT hq, if_pos rfl]
 rw [el_setT hq] at hn
 split
 ·omega
 ·rename_i g
  rw [if_neg g] at hn
  have := h s hs j hj hn
  omega
theorem ClsE.step {cs : List Int} {q t : Nat} {ar : List Ar} (h : ClsE cs q ar t) (hs : ∀ j : Nat, (el ar t).2.2.2 = (j : Int) → el cs j < noneI → el cs q ≤ el cs j + ((el ar t).2.2.1.toNat : Int)) : ClsE cs q ar (t + 1) := by
 intro s hs' j hj hn
 by_cases e : s = t
 ·rw [e] at hj ⊢; exact hs j hj hn
 ·exact h s (by omega) j hj hn
theorem ClsE.all {cs : List Int} {q : Nat} {l : List St} (h : ClsE cs q (el l q).2 (el l q).2.length) : ∀ w j, ArcE l q w j → el cs j < noneI → el cs q ≤ el cs j + (w : Int) := by
 rintro w j ⟨a, ha, h1, rfl⟩ hn
 obtain ⟨s, hs, e⟩ := List.getElem_of_mem ha
 have := h s hs j (by rw [el_get hs, e]; exact h1) hn
 rw [el_get hs, e] at this
 exact this
def DstAns (m : Mc) (P : Nat → Nat → Prop) (vs : List Int) (ec : Int) : Prop := (faultM m ≠ 0 ∧ vs = [] ∧ ec = faultM m) ∨ (faultM m = 0 ∧ LstAns P m.2.length vs ec)
theorem DstAns.one {m : Mc} {P : Nat → Nat → Prop} {vs ws : List Int} {e f : Int} (h : DstAns m P vs e) (k : DstAns m P ws f) : vs = ws ∧ e = f := by
 rcases h with ⟨h0, h1, h2⟩ | ⟨h0, h1⟩ <;> rcases k with ⟨k0, k1, k2⟩ | ⟨k0, k1⟩
 ·exact ⟨h1.trans k1.symm, h2.trans k2.symm⟩
 ·exact absurd k0 h0
 ·exact absurd h0 k0
 ·exact h1.one k1
def LpaAns (m : Mc) (x e : Int) : Prop := ∃ vs f, DstAns m (EndC m.2) vs f ∧ ((f ≠ 0 ∧ x = 0 ∧ e = f) ∨ (f = 0 ∧ e = 0 ∧ x = if m.1 < 0 then 1000000001 else el vs m.1.toNat))
theorem DstAns.len {m : Mc} {P : Nat → Nat → Prop} {vs : List Int} (h : DstAns m P vs 0) : vs.length = m.2.length ∧ -1 ≤ m.1 ∧ m.1 ≤ (m.2.length : Int) - 1 := by
 rcases h with ⟨h0, h1, h2⟩ | ⟨h0, h1⟩
 ·exact absurd h2.symm h0
 ·rcases h1 with ⟨_, h2, _⟩ | ⟨h2, _⟩
  ·exact ⟨h2, (right_parts h0).1⟩
  ·exact absurd h2 (by decide)
end Go.Proofs.Ytobhjhjfannnnaa.Pl
