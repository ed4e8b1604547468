/- The n cheapest ways from one place to all others, found one by one, the cheapest that waits first (no program in sight). -/
import Derived.Test.YtfpibdaedfilaaaGaA
import Derived.Test.YtfpibdaedfilaaaGah
namespace Go.Proofs.Ytfpibdaedfilaaa.Pl
set_option linter.unusedVariables false
set_option linter.unusedSimpArgs false
theorem sumN_le {α : Type} {L : List α} {f g : α → Nat} (h : ∀ a ∈ L, f a ≤ g a) : (L.map f).sum ≤ (L.map g).sum := by
  induction L with
  | nil => exact Nat.le_refl _
  | cons a L ih =>
    have h1 := h a (List.mem_cons_self ..)
    have h2 := ih fun b hb => h b (List.mem_cons_of_mem _ hb)
    simp only [List.map_cons, List.sum_cons]; omega
theorem sumN_min {α : Type} {n : Nat} {L : List α} {f g : α → Nat} (h : ∀ a ∈ L, min n (f a) ≤ g a) : min n (L.map f).sum ≤ (L.map g).sum := by
  induction L with
  | nil => simp
  | cons a L ih =>
    have h1 := h a (List.mem_cons_self ..)
    have h2 := ih fun b hb => h b (List.mem_cons_of_mem _ hb)
    simp only [List.map_cons, List.sum_cons]; omega
theorem sumN_swap {α β : Type} (L : List α) (R : List β) (f : α → β → Nat) : (L.map fun a => (R.map fun b => f a b).sum).sum = (R.map fun b => (L.map fun a => f a b).sum).sum := by
  induction L with
  | nil =>
    simp only [List.map_nil, List.sum_nil]
    exact (sum_none fun _ _ => rfl).symm
  | cons a L ih =>
    simp only [List.map_cons, List.sum_cons, ih]
    rw [← sum_add]
theorem sumN_one {N q : Nat} (hq : q < N) (e : Nat → Nat) : ((List.range N).map fun j => if j = q then e j else 0).sum = e q := by
  induction N with
  | zero => omega
  | succ N ih =>
    rw [List.range_succ, List.map_append, List.sum_append]
    simp only [List.map_cons, List.map_nil, List.sum_cons, List.sum_nil, Nat.add_zero]
    by_cases h : q = N
    · subst h
      rw [if_pos rfl, sum_none fun j hj => if_neg (by have := List.mem_range.1 hj; omega), Nat.zero_add]
    · rw [ih (by omega), if_neg (Ne.symm h), Nat.add_zero]
def hC (H : List Ar) (p : Nat) (c : Int) : Nat := H.countP fun x => decide (x.1 = (p : Int)) && decide (x.2.2.2 ≤ c)
def sumS (st : List (List Ar)) (p : Nat) (g : Nat → Int → Nat) : Nat := ((List.range st.length).map fun q => ((el st q).map fun s => if s.1 = (p : Int) then g q s.2.2.2 else 0).sum).sum
def atS (start p : Nat) (c : Int) : Nat := if p = start ∧ 0 ≤ c then 1 else 0
def gC (st : List (List Ar)) (start : Nat) (F : List (List Int)) (p : Nat) (c : Int) : Nat := atS start p c + sumS st p fun q w => cLe (el F q) (c - w)
def wC (st : List (List Ar)) (start : Nat) : Nat → Nat → Int → Nat
 | 0 => fun _ _ => 0
 | k + 1 => fun p c => atS start p c + sumS st p fun q w => wC st start k q (c - w)
section
variable {st : List (List Ar)} {start n : Nat}
theorem sumS_le {p : Nat} {g h : Nat → Int → Nat} (hgh : ∀ q, q < st.length → ∀ s ∈ el st q, g q s.2.2.2 ≤ h q s.2.2.2) : sumS st p g ≤ sumS st p h :=
 sumN_le fun q hq => sumN_le fun s hs => by
  split
  ·exact hgh q (List.mem_range.1 hq) s hs
  ·exact Nat.le_refl _
theorem sumS_min {p : Nat} {g h : Nat → Int → Nat} (hgh : ∀ q, q < st.length → ∀ s ∈ el st q, min n (g q s.2.2.2) ≤ h q s.2.2.2) : min n (sumS st p g) ≤ sumS st p h :=
 sumN_min fun q hq => sumN_min fun s hs => by
  split
  ·exact hgh q (List.mem_range.1 hq) s hs
  ·simp
theorem sumS_congr {p : Nat} {g h : Nat → Int → Nat} (hgh : ∀ q, q < st.length → ∀ s ∈ el st q, g q s.2.2.2 = h q s.2.2.2) : sumS st p g = sumS st p h :=
 Nat.le_antisymm (sumS_le fun q hq s hs => Nat.le_of_eq (hgh q hq s hs)) (sumS_le fun q hq s hs => Nat.le_of_eq (hgh q hq s hs).symm)
theorem sumS_add {p : Nat} {g h : Nat → Int → Nat} : sumS st p (fun q w => g q w + h q w) = sumS st p g + sumS st p h := by
 unfold sumS
 rw [← sum_add]
 congr 1
 refine List.map_congr_left fun q _ => ?_
 rw [← sum_add]
 congr 1
 refine List.map_congr_left fun s _ => ?_
 split <;> rfl
theorem sumS_at {p q : Nat} (hq : q < st.length) (e : Int → Nat) : sumS st p (fun j w => if j = q then e w else 0) = ((el st q).map fun s => if s.1 = (p : Int) then e s.2.2.2 else 0).sum := by
 unfold sumS
 rw [← sumN_one hq fun j => ((el st j).map fun s => if s.1 = (p : Int) then e s.2.2.2 else 0).sum]
 congr 1
 refine List.map_congr_left fun j _ => ?_
 by_cases h : j = q
 ·subst h
  rw [if_pos rfl]
  simp only [if_pos]
 ·rw [if_neg h]
  refine sum_none fun s _ => ?_
  simp only [if_neg h]
  split <;> rfl
def totF (F : List (List Int)) : Nat := (F.map List.length).sum
theorem totF_set {F : List (List Int)} {q : Nat} (hq : q < F.length) (x : Int) : totF (F.set q (el F q ++ [x])) = totF F + 1 := by
  unfold totF
  induction F generalizing q with
  | nil => cases hq
  | cons a F ih =>
    cases q with
    | zero =>
      rw [List.set_cons_zero]
      simp only [List.map_cons, List.sum_cons, el_zero, List.length_append, List.length_singleton]
      omega
    | succ q =>
      rw [List.set_cons_succ]
      have h := ih (q := q) (by simpa using hq)
      have e : el (a :: F) (q + 1) = el F q := by simp [el]
      rw [e]
      simp only [List.map_cons, List.sum_cons]
      omega
theorem totF_le {F : List (List Int)} (h : ∀ p, p < F.length → (el F p).length ≤ n) : totF F ≤ F.length * n := by
  unfold totF
  induction F with
  | nil => simp
  | cons a F ih =>
    have h0 := h 0 (by simp)
    rw [el_zero] at h0
    have h1 := ih fun p hp => by
      have := h (p + 1) (by simpa using hp)
      have e : el (a :: F) (p + 1) = el F p := by simp [el]
      rw [e] at this; exact this
    rw [List.map_cons, List.sum_cons, List.length_cons, Nat.succ_mul]
    omega
theorem el_setF {F : List (List Int)} {q j : Nat} (hq : q < F.length) (v : List Int) : el (F.set q v) j = if j = q then v else el F j := by
 by_cases h : j = q
 ·subst h; rw [if_pos rfl, el_get (by simpa using hq)]; simp
 ·rw [if_neg h]; simp [el, List.getElem?_set_ne (Ne.symm h)]
structure CwI (CAP : Int) (st : List (List Ar)) (n start : Nat) (F : List (List Int)) (H : List Ar) : Prop where
 len : F.length = st.length
 few : ∀ p, p < st.length → (el F p).length ≤ n
 hto : ∀ x ∈ H, ∃ t : Nat, x.1 = (t : Int) ∧ t < st.length
 ord : ∀ p, p < st.length → ∀ y ∈ el F p, ∀ x ∈ H, y ≤ x.2.2.2
 ris : ∀ p, p < st.length → RisL (el F p)
 up : ∀ p, p < st.length → ∀ c, c < CAP → cLe (el F p) c + hC H p c ≤ gC st start F p c
 lo : ∀ p, p < st.length → ∀ c, c < CAP → min n (gC st start F p c) ≤ cLe (el F p) c + hC H p c
 wk : ∀ p, p < st.length → ∀ c, c < CAP → cLe (el F p) c + hC H p c ≤ wC st start (totF F + 1) p c
theorem hC_perm {H H' : List Ar} (h : H.Perm H') (p : Nat) (c : Int) : hC H p c = hC H' p c := h.countP_eq _
theorem hC_cons (x : Ar) (H : List Ar) (p : Nat) (c : Int) : hC (x :: H) p c = hC H p c + if x.1 = (p : Int) ∧ x.2.2.2 ≤ c then 1 else 0 := by
 unfold hC
 rw [List.countP_cons]
 by_cases h1 : x.1 = (p : Int) <;> by_cases h2 : x.2.2.2 ≤ c <;> simp [h1, h2]
theorem hC_app (H R : List Ar) (p : Nat) (c : Int) : hC (H ++ R) p c = hC H p c + hC R p c := by
 unfold hC
 rw [List.countP_append]
theorem hC_map (L : List Ar) (bk : Int → Int) (p : Nat) (c : Int) : hC (L.map fun s => (s.1, 0, 0, bk s.2.2.2)) p c = (L.map fun s => if s.1 = (p : Int) then (if bk s.2.2.2 ≤ c then 1 else 0) else 0).sum := by
  induction L with
  | nil => rfl
  | cons s L ih =>
    rw [List.map_cons, hC_cons, ih, List.map_cons, List.sum_cons]
    by_cases h1 : s.1 = (p : Int) <;> by_cases h2 : bk s.2.2.2 ≤ c <;> simp [h1, h2] <;> omega
theorem CwI.perm {CAP : Int} {F : List (List Int)} {H H' : List Ar} (h : CwI CAP st n start F H) (e : H'.Perm H) : CwI CAP st n start F H' :=
 ⟨h.len, h.few, fun x hx => h.hto x (e.mem_iff.1 hx), fun p hp y hy x hx => h.ord p hp y hy x (e.mem_iff.1 hx), h.ris, fun p hp c hc => by rw [hC_perm e]; exact h.up p hp c hc, fun p hp c hc => by rw [hC_perm e]; exact h.lo p hp c hc, fun p hp c hc => by rw [hC_perm e]; exact h.wk p hp c hc⟩
theorem el_nils (N j : Nat) : el (List.replicate N ([] : List Int)) j = [] := by
 by_cases h : j < N
 ·simp [el, h]
 ·simp [el, h]; rfl
theorem CwI.begin {CAP : Int} (hs : start < st.length) : CwI CAP st n start (List.replicate st.length []) [((start : Int), 0, 0, 0)] := by
 have hh : ∀ p c, hC [((start : Int), (0 : Int), (0 : Int), (0 : Int))] p c = atS start p c := fun p c => by
  rw [hC_cons]
  unfold atS
  have h0 : hC [] p c = 0 := rfl
  rw [h0, Nat.zero_add]
  by_cases h1 : p = start
  ·subst h1; simp
  ·have : ¬ (start : Int) = (p : Int) := by omega
   simp [h1, this]
 have hz : ∀ p (g : Nat → Int → Nat), (∀ q w, g q w = 0) → sumS st p g = 0 := fun p g hg => sum_none fun q _ => sum_none fun s _ => by rw [hg]; split <;> rfl
 have hn : ∀ c, cLe [] c = 0 := fun _ => rfl
 have hg : ∀ p c, gC st start (List.replicate st.length []) p c = atS start p c := fun p c => by
  unfold gC
  rw [hz p _ fun q w => by rw [el_nils]; rfl, Nat.add_zero]
 refine ⟨by simp, fun p _ => by rw [el_nils]; simp, fun x hx => ?_, fun p _ y hy => absurd hy (by rw [el_nils]; simp), fun p _ => by rw [el_nils]; exact List.Pairwise.nil, fun p _ c _ => ?_, fun p _ c _ => ?_, fun p _ c _ => ?_⟩
 ·rw [List.mem_singleton] at hx
  subst hx
  exact ⟨start, rfl, hs⟩
 ·rw [el_nils, hh, hg, hn]; omega
 ·rw [el_nils, hh, hg, hn]; omega
 ·rw [el_nils, hh, hn]
  show _ ≤ atS start p c + _
  omega
theorem cLe_neg1 {F : List (List Int)} {q : Nat} (hq : q < F.length) (x : Int) (j : Nat) (c : Int) : cLe (el (F.set q (el F q ++ [x])) j) c = cLe (el F j) c + if j = q then (if x ≤ c then 1 else 0) else 0 := by
 rw [el_setF hq]
 by_cases h : j = q
 ·subst h
  rw [if_pos rfl, if_pos rfl]
  unfold cLe
  rw [List.countP_append]
  simp
 ·rw [if_neg h, if_neg h, Nat.add_zero]
theorem CwI.find {CAP : Int} {F : List (List Int)} {H : List Ar} {x : Ar} {q : Nat} (h : CwI CAP st n start F (x :: H)) (hx : x.1 = (q : Int)) (hl : (el F q).length < n) (hmin : ∀ y ∈ H, x.2.2.2 ≤ y.2.2.2) (hw : ∀ j, j < st.length → ∀ s ∈ el st j, 0 ≤ s.2.2.2 ∧ ∃ t : Nat, s.1 = (t : Int) ∧ t < st.length) (bk : Int → Int) (hbk : ∀ s ∈ el st q, x.2.2.2 ≤ bk s.2.2.2 ∧ ∀ c, c < CAP → (bk s.2.2.2 ≤ c ↔ x.2.2.2 + s.2.2.2 ≤ c)) :
  CwI CAP st n start (F.set q (el F q ++ [x.2.2.2])) (H ++ (el st q).map fun s => (s.1, 0, 0, bk s.2.2.2)) := by
 obtain ⟨t, e, hq⟩ := h.hto x (List.mem_cons_self ..)
 have eq : t = q := by omega
 subst eq
 have hqF : t < F.length := by rw [h.len]; exact hq
 -- as many more are made as wait anew
 have hE : ∀ p c, c < CAP → hC ((el st t).map fun s => (s.1, 0, 0, bk s.2.2.2)) p c = ((el st t).map fun s => if s.1 = (p : Int) then (if x.2.2.2 ≤ c - s.2.2.2 then 1 else 0) else 0).sum := fun p c hc => by
  rw [hC_map]
  congr 1
  refine List.map_congr_left fun s hs => ?_
  have := (hbk s hs).2 c hc
  by_cases h1 : bk s.2.2.2 ≤ c
  ·rw [if_pos h1, if_pos (show x.2.2.2 ≤ c - s.2.2.2 by have := this.1 h1; omega)]
  ·rw [if_neg h1, if_neg (show ¬ x.2.2.2 ≤ c - s.2.2.2 from fun g => h1 (this.2 (by omega)))]
 have hG : ∀ p c, gC st start (F.set t (el F t ++ [x.2.2.2])) p c = gC st start F p c + ((el st t).map fun s => if s.1 = (p : Int) then (if x.2.2.2 ≤ c - s.2.2.2 then 1 else 0) else 0).sum := fun p c => by
  unfold gC
  rw [← sumS_at hq fun w => if x.2.2.2 ≤ c - w then 1 else 0, Nat.add_assoc, ← sumS_add]
  congr 1
  exact sumS_congr fun j _ s _ => cLe_neg1 hqF _ _ _
 have hH : ∀ p c, c < CAP → cLe (el (F.set t (el F t ++ [x.2.2.2])) p) c + hC (H ++ (el st t).map fun s => (s.1, 0, 0, bk s.2.2.2)) p c = (cLe (el F p) c + hC (x :: H) p c) + ((el st t).map fun s => if s.1 = (p : Int) then (if x.2.2.2 ≤ c - s.2.2.2 then 1 else 0) else 0).sum := fun p c hc => by
  rw [cLe_neg1 hqF, hC_app, hE p c hc, hC_cons, e]
  by_cases h1 : p = t
  ·subst h1
   by_cases h2 : x.2.2.2 ≤ c <;> simp [h2] <;> omega
  ·have h3 : ¬ (t : Int) = (p : Int) := by omega
   simp [h1, h3]; omega
 have hup : ∀ p, p < st.length → ∀ c, c < CAP → cLe (el (F.set t (el F t ++ [x.2.2.2])) p) c + hC (H ++ (el st t).map fun s => (s.1, 0, 0, bk s.2.2.2)) p c ≤ gC st start (F.set t (el F t ++ [x.2.2.2])) p c := fun p hp c hc => by
  rw [hH p c hc, hG]
  have := h.up p hp c hc
  omega
 refine ⟨by rw [List.length_set]; exact h.len, fun p hp => ?_, fun y hy => ?_, fun p hp y hy z hz => ?_, fun p hp => ?_, hup, fun p hp c hc => ?_, fun p hp c hc => ?_⟩
 ·rw [el_setF hqF]
  split
  ·simp; omega
  ·exact h.few p hp
 ·rcases List.mem_append.1 hy with hy | hy
  ·exact h.hto y (List.mem_cons_of_mem _ hy)
  ·obtain ⟨s, hs, rfl⟩ := List.mem_map.1 hy
   exact (hw t hq s hs).2
 ·have hzx : x.2.2.2 ≤ z.2.2.2 := by
   rcases List.mem_append.1 hz with hz | hz
   ·exact hmin z hz
   ·obtain ⟨s, hs, rfl⟩ := List.mem_map.1 hz
    exact (hbk s hs).1
  rw [el_setF hqF] at hy
  split at hy
  ·rename_i e1
   rcases List.mem_append.1 hy with hy | hy
   ·have := h.ord t hq y hy x (List.mem_cons_self ..); omega
   ·rw [List.mem_singleton.1 hy]; exact hzx
  ·have := h.ord p hp y hy x (List.mem_cons_self ..); omega
 ·rw [el_setF hqF]
  split
  ·refine List.pairwise_append.2 ⟨h.ris t hq, List.pairwise_singleton _ _, fun y hy z hz => ?_⟩
   rw [List.mem_singleton.1 hz]
   exact h.ord t hq y hy x (List.mem_cons_self ..)
  ·exact h.ris p hp
 ·rw [hH p c hc, hG]
  have := h.lo p hp c hc
  omega
 ·refine Nat.le_trans (hup p hp c hc) ?_
  rw [totF_set hqF]
  show atS start p c + _ ≤ atS start p c + _
  refine Nat.add_le_add_left (sumS_le fun j hj s hs => ?_) _
  have hc2 : c - s.2.2.2 < CAP := by have := (hw j hj s hs).1; omega
  refine Nat.le_trans ?_ (h.wk j hj _ hc2)
  rw [cLe_neg1 hqF, hC_cons, e]
  by_cases h1 : j = t
  ·subst h1
   by_cases h2 : x.2.2.2 ≤ c - s.2.2.2 <;> simp [h2] <;> omega
  ·rw [if_neg h1]; omega
theorem CwI.drop {CAP : Int} {F : List (List Int)} {H : List Ar} {x : Ar} {q : Nat} (h : CwI CAP st n start F (x :: H)) (hx : x.1 = (q : Int)) (hl : (el F q).length = n) : CwI CAP st n start F H := by
 obtain ⟨t, e, hq⟩ := h.hto x (List.mem_cons_self ..)
 have eq : t = q := by omega
 subst eq
 have hle : ∀ p c, hC H p c ≤ hC (x :: H) p c := fun p c => by rw [hC_cons]; omega
 refine ⟨h.len, h.few, fun y hy => h.hto y (List.mem_cons_of_mem _ hy), fun p hp y hy z hz => h.ord p hp y hy z (List.mem_cons_of_mem _ hz), h.ris, fun p hp c hc => ?_, fun p hp c hc => ?_, fun p hp c hc => ?_⟩
 ·have := h.up p hp c hc; have := hle p c; omega
 ·have h1 := h.lo p hp c hc
  rw [hC_cons] at h1
  by_cases h2 : x.1 = (p : Int) ∧ x.2.2.2 ≤ c
  ·have ep : p = t := by omega
   subst ep
   have h3 : cLe (el F p) c = n := by
    rw [← hl]
    unfold cLe
    refine List.countP_eq_length.2 fun y hy => ?_
    have := h.ord p hp y hy x (List.mem_cons_self ..)
    simp; omega
   omega
  ·rw [if_neg h2] at h1
   exact h1
 ·have := h.wk p hp c hc; have := hle p c; omega
theorem wC_succ (k p : Nat) (c : Int) : wC st start (k + 1) p c = atS start p c + sumS st p fun q w => wC st start k q (c - w) := rfl
theorem wC_mono {j k : Nat} (h : j ≤ k) : ∀ p c, wC st start j p c ≤ wC st start k p c := by
  induction j generalizing k with
  | zero => intro p c; exact Nat.zero_le _
  | succ j ih =>
    intro p c
    cases k with
    | zero => omega
    | succ k =>
      rw [wC_succ, wC_succ]
      exact Nat.add_le_add_left (sumS_le (g := fun q w => wC st start j q (c - w)) (h := fun q w => wC st start k q (c - w)) fun q _ s _ => ih (Nat.le_of_succ_le_succ h) q (c - s.2.2.2)) _
theorem CwI.done {CAP : Int} {F : List (List Int)} (h : CwI CAP st n start F []) (hw : ∀ j, j < st.length → ∀ s ∈ el st j, 0 ≤ s.2.2.2 ∧ ∃ t : Nat, s.1 = (t : Int) ∧ t < st.length) {k : Nat} (hk : st.length * n + 1 ≤ k) : ∀ p, p < st.length → ∀ c, c < CAP → cLe (el F p) c = min n (wC st start k p c) := by
  have h0 : ∀ p c, hC [] p c = 0 := fun _ _ => rfl
  have hlow : ∀ k p, p < st.length → ∀ c, c < CAP → min n (wC st start k p c) ≤ cLe (el F p) c := by
    intro k
    induction k with
    | zero => intro p hp c hc; show min n 0 ≤ _; omega
    | succ k ih =>
      intro p hp c hc
      have h1 := h.lo p hp c hc
      rw [h0, Nat.add_zero] at h1
      refine Nat.le_trans ?_ h1
      have h2 : min n (sumS st p fun q w => wC st start k q (c - w)) ≤ sumS st p fun q w => cLe (el F q) (c - w) := sumS_min fun q hq s hs => ih q hq _ (by have := (hw q hq s hs).1; omega)
      rw [wC_succ]
      unfold gC
      omega
  intro p hp c hc
  have h1 := hlow k p hp c hc
  have h2 := h.wk p hp c hc
  rw [h0, Nat.add_zero] at h2
  have h3 : totF F ≤ st.length * n := by
    have := totF_le (n := n) (F := F) fun p hp => h.few p (by rw [← h.len]; exact hp)
    rw [h.len] at this; exact this
  have h4 := wC_mono (st := st) (start := start) (j := totF F + 1) (k := k) (by omega) p c
  have h5 := h.few p hp
  have h6 := cLe_len (el F p) c
  omega
theorem wC_front (hs : ∀ j, j < st.length → ∀ s ∈ el st j, ∃ t : Nat, s.1 = (t : Int) ∧ t < st.length) : ∀ {k start : Nat}, start < st.length → ∀ p c, wC st start (k + 1) p c = atS start p c + ((el st start).map fun s => wC st s.1.toNat k p (c - s.2.2.2)).sum
  | 0, start, h0, p, c => by
    rw [wC_succ]
    congr 1
    have e1 : sumS st p (fun q w => wC st start 0 q (c - w)) = 0 := sum_none fun q _ => sum_none fun s _ => by split <;> rfl
    rw [e1]
    exact (sum_none fun s _ => rfl).symm
  | k + 1, start, h0, p, c => by
    rw [wC_succ]
    congr 1
    have e1 : sumS st p (fun q w => wC st start (k + 1) q (c - w)) = sumS st p (fun q w => atS start q (c - w)) + sumS st p fun q w => ((el st start).map fun s => wC st s.1.toNat k q (c - w - s.2.2.2)).sum := by
      rw [← sumS_add]
      exact sumS_congr fun q _ s _ => wC_front hs h0 _ _
    have e2 : sumS st p (fun q w => atS start q (c - w)) = ((el st start).map fun s => if s.1 = (p : Int) then (if 0 ≤ c - s.2.2.2 then 1 else 0) else 0).sum := by
      rw [← sumS_at h0 fun w => if 0 ≤ c - w then 1 else 0]
      refine sumS_congr fun q _ s _ => ?_
      unfold atS
      by_cases h1 : q = start <;> by_cases h2 : 0 ≤ c - s.2.2.2 <;> simp [h1, h2]
    have e3 : sumS st p (fun q w => ((el st start).map fun s => wC st s.1.toNat k q (c - w - s.2.2.2)).sum) = ((el st start).map fun s => sumS st p fun q w => wC st s.1.toNat k q (c - s.2.2.2 - w)).sum := by
      unfold sumS
      rw [sumN_swap]
      congr 1
      refine List.map_congr_left fun q _ => ?_
      rw [sumN_swap]
      congr 1
      refine List.map_congr_left fun s _ => ?_
      by_cases h1 : s.1 = (p : Int)
      · simp only [if_pos h1]
        congr 1
        refine List.map_congr_left fun s' _ => ?_
        rw [show c - s.2.2.2 - s'.2.2.2 = c - s'.2.2.2 - s.2.2.2 by omega]
      · simp only [if_neg h1]
        exact (sum_none fun s' _ => rfl).symm
    rw [e1, e2, e3, ← sum_add]
    congr 1
    refine List.map_congr_left fun s hs2 => ?_
    rw [wC_succ]
    congr 1
    obtain ⟨t, e, ht⟩ := hs start h0 s hs2
    unfold atS
    rw [e, Int.toNat_natCast]
    by_cases h1 : p = t
    · subst h1
      by_cases h2 : 0 ≤ c - s.2.2.2 <;> simp [h2]
    · have h3 : ¬ (t : Int) = (p : Int) := by omega
      simp [h1, h3]
end
structure FrT (l : List St) (fr : List Int) : Prop where
 len : fr.length = l.length
 val : ∀ q, q < l.length → (el fr q = 1000000001 ∧ ∀ c, ¬ EndC l q c) ∨ ∃ c : Nat, LeastP (EndC l q) c ∧ c ≤ 1000000000 ∧ el fr q = (c : Int)
def TgA (fr : List Int) (q : Nat) (a : Ar) : Prop := el fr a.2.2.2.toNat ≠ 1000000001 ∧ a.2.2.1 + el fr a.2.2.2.toNat = el fr q
def TgN (l : List St) (fr : List Int) : Nat → Nat → Prop
 | 0 => fun q => el fr q ≠ 1000000001 ∧ (el l q).1 = el fr q
 | k + 1 => fun q => ∃ a ∈ (el l q).2, TgA fr q a ∧ TgN l fr k a.2.2.2.toNat
section
variable {l : List St} {fr : List Int}
def LenA (l : List St) (fr : List Int) (q k : Nat) : Prop := LeastP (fun k => TgN l fr k q) k
inductive BstW (l : List St) (fr : List Int) : Nat → Nat → List Nat → Prop
 | nil {q : Nat} : BstW l fr 0 q []
 | cons {k q i : Nat} {L : List Nat} (hi : i < (el l q).2.length) (ha : TgA fr q (el (el l q).2 i)) (hk : LenA l fr (el (el l q).2 i).2.2.2.toNat k) (hf : ∀ j, j < i → ¬ (TgA fr q (el (el l q).2 j) ∧ LenA l fr (el (el l q).2 j).2.2.2.toNat k)) (h : BstW l fr k (el (el l q).2 i).2.2.2.toNat L) : BstW l fr (k + 1) q (i :: L)
end
structure LnT (l : List St) (fr : List Int) (N : Int) (ls : List Int) : Prop where
 len : ls.length = l.length
 rng : ∀ q, q < l.length → 0 ≤ el ls q ∧ el ls q ≤ N
 had : ∀ q, q < l.length → el ls q < N → TgN l fr (el ls q).toNat q
section
variable {l : List St} {fr : List Int} {N : Int} {ls : List Int}
end
def CostAns (m : Mc) (n : Int) (L : List Int) (e : Int) : Prop :=
 (faultM m ≠ 0 ∧ L = [] ∧ e = faultM m) ∨ (faultM m = 0 ∧ ¬ (0 ≤ n ∧ n ≤ 20) ∧ L = [] ∧ e = 2) ∨
 (faultM m = 0 ∧ 0 ≤ n ∧ n ≤ 20 ∧ ∃ vs ec, DstAns m (EndC m.2) vs ec ∧ ((ec ≠ 0 ∧ L = [] ∧ e = ec) ∨
  (ec = 0 ∧ m.1 < 0 ∧ L = [] ∧ e = 0) ∨ (ec = 0 ∧ 0 ≤ m.1 ∧ ∃ R, CheapN m.2 m.1.toNat n.toNat R ∧ (((∃ x ∈ R, 1000000000 < x) ∧ L = [] ∧ e = 4) ∨ ((∀ x ∈ R, x ≤ 1000000000) ∧ L = R ∧ e = 0)))))
end Go.Proofs.Ytfpibdaedfilaaa.Pl
namespace Go.Proofs.Ytfpibdaedfilaaa.Pl
set_option linter.unusedVariables false
theorem InsN.fin {l : List St} {q n : Nat} (h0 : 0 ≤ (el l q).1) (h1 : (el l q).1 ≠ 1000000001) (k : Nat) (ar : List Ar) : InsN n (fun c => fE l q c + sA l k (ar.take 0) c) ((insS (el l q).1 []).take n) := by
 refine ((InsN.nil n).ins h0).congr fun c => ?_
 simp only [sA, List.take_zero, List.map_nil, List.sum_nil, Nat.add_zero, Nat.zero_add, fE]
 by_cases g : (el l q).1 ≤ (c : Int)
 ·rw [if_pos g, if_pos ⟨h1, by omega⟩]
 ·rw [if_neg g, if_neg (fun x => g (by omega))]
theorem InsN.nofin {l : List St} {q n : Nat} (h1 : (el l q).1 = 1000000001) (k : Nat) (ar : List Ar) : InsN n (fun c => fE l q c + sA l k (ar.take 0) c) [] := by
 refine (InsN.nil n).congr fun c => ?_
 simp only [sA, List.take_zero, List.map_nil, List.sum_nil, Nat.add_zero, fE]
 rw [if_neg (fun x => x.1 h1)]
theorem InsN.up {n j : Nat} {P : Nat → Nat} {T L : List Int} {w : Int} (hj : j < T.length) (hp : 0 ≤ el T j + w) (h : InsN n (fun c => P c + cUp T w j c) L) : InsN n (fun c => P c + cUp T w (j + 1) c) ((insS (el T j + w) L).take n) :=
 (h.ins hp).congr fun c => by rw [cUp_succ hj]; simp only [Nat.add_assoc]
theorem InsN.up0 {n : Nat} {P : Nat → Nat} {T L : List Int} {w : Int} (h : InsN n P L) : InsN n (fun c => P c + cUp T w 0 c) L := h.congr fun c => by rw [cUp_zero, Nat.add_zero]
theorem right_nums {m : Mc} (hr : faultM m = 0) {q : Nat} (hq : q < m.2.length) : 0 ≤ (el m.2 q).1 ∧ (el m.2 q).1 ≤ 1000000001 ∧ ∀ i, i < (el m.2 q).2.length → 0 ≤ (el (el m.2 q).2 i).2.2.1 ∧ (el (el m.2 q).2 i).2.2.1 ≤ 1000000000 ∧ ∃ t : Nat, (el (el m.2 q).2 i).2.2.2 = (t : Int) ∧ t < m.2.length := by
 have h1 := (right_parts hr).2 _ (el_mem hq)
 simp only [stB, Bool.and_eq_true, List.all_eq_true] at h1
 have h0 := h1.1
 simp only [finB, inB, Bool.and_eq_true, Bool.or_eq_true, decide_eq_true_eq] at h0
 refine ⟨by omega, by omega, fun i hi => ?_⟩
 have h2 := h1.2 _ (el_mem hi)
 simp only [arcB, inB, Bool.and_eq_true, decide_eq_true_eq] at h2
 exact ⟨by omega, by omega, (el (el m.2 q).2 i).2.2.2.toNat, by omega, by omega⟩
end Go.Proofs.Ytfpibdaedfilaaa.Pl
namespace Go.Proofs.Ytfpibdaedfilaaa.Pl
set_option linter.unusedVariables false
set_option linter.unusedSimpArgs false
def kA (k : Int) : Int := k / 2147483648
def kB (k : Int) : Int := k % 2147483648
def noK : Int := 2147483651147483649
def capK : Int := 2147483650147483648
def KeyOk (x : Int) : Prop := x = noK ∨ (0 ≤ kA x ∧ kA x ≤ 1000000000 ∧ 0 ≤ kB x ∧ kB x ≤ 1000000000)
def bothK (x y : Int) : Int := if kA x + kA y ≤ 1000000000 ∧ kB x + kB y ≤ 1000000000 then x + y else noK
theorem key_mk {a b : Int} (h0 : 0 ≤ b) (h1 : b < 2147483648) : kA (a * 2147483648 + b) = a ∧ kB (a * 2147483648 + b) = b := by unfold kA kB; omega
theorem key_less (x y : Int) : x < y ↔ kA x < kA y ∨ (kA x = kA y ∧ kB x < kB y) := by unfold kA kB; omega
theorem key_eq (x y : Int) : x = y ↔ kA x = kA y ∧ kB x = kB y := by unfold kA kB; omega
theorem noK_parts : kA noK = 1000000001 ∧ kB noK = 1000000001 := by decide
theorem bothK_le {x s c : Int} (hx : KeyOk x) (hb : x = noK ∨ kB x ≤ 1000000) (hs : 0 ≤ kA s ∧ kA s ≤ 1000000000 ∧ 0 ≤ kB s ∧ kB s ≤ 1) (hc : c < capK) : bothK x s ≤ c ↔ x + s ≤ c := by
 unfold bothK KeyOk noK capK kA kB at *
 split <;> omega
theorem bothK_ge {x s : Int} (hx : KeyOk x) (hs : 0 ≤ kA s ∧ kA s ≤ 1000000000 ∧ 0 ≤ kB s ∧ kB s ≤ 1) : x ≤ bothK x s := by
 unfold bothK KeyOk noK kA kB at *
 split <;> omega
theorem bothK_ok {x s : Int} (hx : KeyOk x) (hs : KeyOk s) : KeyOk (bothK x s) ∧ (bothK x s = noK ∨ kB (bothK x s) = kB x + kB s) := by
 unfold bothK KeyOk noK kA kB at *
 split
 ·refine ⟨.inr ?_, .inr ?_⟩ <;> omega
 ·exact ⟨.inl rfl, .inl rfl⟩
def arS (a : Ar) : Ar := (a.2.2.2, 0, 0, a.2.2.1 * 2147483648 + 1)
def onS (l : List St) (q : Nat) : List Ar := (el l q).2.map arS ++ if (el l q).1 = 1000000001 then [] else [((l.length : Int), 0, 0, (el l q).1 * 2147483648)]
def onL (l : List St) : List (List Ar) := (List.range l.length).map (onS l) ++ [[]]
theorem onL_len (l : List St) : (onL l).length = l.length + 1 := by simp [onL]
theorem onL_el {l : List St} {q : Nat} (h : q < l.length) : el (onL l) q = onS l q := by
 unfold onL
 rw [el_left (by simpa using h), el_range_map _ h]
theorem onL_end (l : List St) : el (onL l) l.length = [] := by
 unfold onL
 simp [el]
structure RgtL (l : List St) : Prop where
 fin : ∀ q, q < l.length → 0 ≤ (el l q).1 ∧ (el l q).1 ≤ 1000000001
 arc : ∀ q, q < l.length → ∀ a ∈ (el l q).2, 0 ≤ a.2.2.1 ∧ a.2.2.1 ≤ 1000000000 ∧ ∃ t : Nat, a.2.2.2 = (t : Int) ∧ t < l.length
theorem RgtL.of {m : Mc} (hr : faultM m = 0) : RgtL m.2 :=
 ⟨fun q hq => ⟨(right_nums hr hq).1, (right_nums hr hq).2.1⟩, fun q hq a ha => by
  obtain ⟨i, hi, rfl⟩ := mem_el ha
  exact (right_nums hr hq).2.2 i hi⟩
def StpOk (N : Nat) (s : Ar) : Prop := (0 ≤ kA s.2.2.2 ∧ kA s.2.2.2 ≤ 1000000000 ∧ 0 ≤ kB s.2.2.2 ∧ kB s.2.2.2 ≤ 1) ∧ ∃ t : Nat, s.1 = (t : Int) ∧ t < N
theorem StpOk.pos {N : Nat} {s : Ar} (h : StpOk N s) : 0 ≤ s.2.2.2 := by
 have h1 := h.1
 unfold kA kB at h1
 omega
theorem StpOk.key {N : Nat} {s : Ar} (h : StpOk N s) : KeyOk s.2.2.2 := .inr (by have := h.1; omega)
def StsOk (S : List (List Ar)) : Prop := ∀ q, q < S.length → ∀ s ∈ el S q, StpOk S.length s
theorem StsOk.hw {S : List (List Ar)} (h : StsOk S) : ∀ j, j < S.length → ∀ s ∈ el S j, 0 ≤ s.2.2.2 ∧ ∃ t : Nat, s.1 = (t : Int) ∧ t < S.length := fun j hj s hs => ⟨(h j hj s hs).pos, (h j hj s hs).2⟩
theorem onS_mem {l : List St} {q : Nat} {s : Ar} (h : s ∈ onS l q) : (∃ a ∈ (el l q).2, s = arS a) ∨ ((el l q).1 ≠ 1000000001 ∧ s = ((l.length : Int), 0, 0, (el l q).1 * 2147483648)) := by
 rcases List.mem_append.1 h with h | h
 ·obtain ⟨a, ha, rfl⟩ := List.mem_map.1 h
  exact .inl ⟨a, ha, rfl⟩
 ·split at h
  ·cases h
  ·rename_i g
   exact .inr ⟨g, List.mem_singleton.1 h⟩
theorem onL_ok {l : List St} (h : RgtL l) : StsOk (onL l) := fun q hq s hs => by
 rw [onL_len] at hq ⊢
 by_cases hl : q < l.length
 ·rw [onL_el hl] at hs
  rcases onS_mem hs with ⟨a, ha, rfl⟩ | ⟨g, rfl⟩
  ·obtain ⟨h0, h1, t, e, ht⟩ := h.arc q hl a ha
   refine ⟨?_, t, e, by omega⟩
   unfold arS kA kB
   simp only
   omega
  ·obtain ⟨h0, h1⟩ := h.fin q hl
   refine ⟨?_, l.length, rfl, by omega⟩
   unfold kA kB
   simp only
   omega
 ·rw [show q = l.length by omega, onL_end] at hs
  cases hs
structure XP (l : List St) (X : Nat → Nat → Int → Nat) : Prop where
 zero : ∀ p c, X 0 p c = 0
 fin : ∀ k c, X (k + 1) l.length c = if 0 ≤ c then 1 else 0
 step : ∀ k p c, p < l.length → X (k + 1) p c = ((onS l p).map fun s => X k s.1.toNat (c - s.2.2.2)).sum
theorem XP.fro {l : List St} (h : RgtL l) : XP l fun k p c => wC (onL l) p k l.length c := by
 have hs : ∀ j, j < (onL l).length → ∀ s ∈ el (onL l) j, ∃ t : Nat, s.1 = (t : Int) ∧ t < (onL l).length := fun j hj s hs => (onL_ok h j hj s hs).2
 refine ⟨fun _ _ => rfl, fun k c => ?_, fun k p c hp => ?_⟩
 ·show wC (onL l) l.length (k + 1) l.length c = _
  rw [wC_front hs (by rw [onL_len]; omega), onL_end]
  simp [atS]
 ·show wC (onL l) p (k + 1) l.length c = _
  rw [wC_front hs (by rw [onL_len]; omega), onL_el hp]
  have : atS p l.length c = 0 := by unfold atS; rw [if_neg (by omega)]
  rw [this, Nat.zero_add]
section
variable {l : List St} {X : Nat → Nat → Int → Nat}
theorem XP.row (hX : XP l X) {k p : Nat} {c : Int} (hp : p < l.length) : X (k + 2) p c = ((el l p).2.map fun a => X (k + 1) a.2.2.2.toNat (c - (a.2.2.1 * 2147483648 + 1))).sum + if (el l p).1 ≠ 1000000001 ∧ (el l p).1 * 2147483648 ≤ c then 1 else 0 := by
 rw [hX.step (k + 1) p c hp]
 unfold onS
 rw [List.map_append, List.sum_append, List.map_map]
 congr 1
 by_cases h : (el l p).1 = 1000000001
 ·rw [if_pos h, if_neg (fun g => g.1 h)]; rfl
 ·rw [if_neg h]
  simp only [List.map_cons, List.map_nil, List.sum_cons, List.sum_nil, Nat.add_zero, Int.toNat_natCast]
  rw [hX.fin]
  by_cases g : (el l p).1 * 2147483648 ≤ c
  ·rw [if_pos (by omega), if_pos ⟨h, g⟩]
  ·rw [if_neg (by omega), if_neg (fun x => g x.2)]
theorem XP.one (hX : XP l X) (hR : RgtL l) {p : Nat} {c : Int} (hp : p < l.length) : X 1 p c = 0 := by
 rw [hX.step 0 p c hp]
 exact sum_none fun s _ => hX.zero _ _
theorem XP.neg (hX : XP l X) (hR : RgtL l) : ∀ k p c, p < l.length → c < 0 → X k p c = 0
  | 0, p, c, _, _ => hX.zero p c
  | 1, p, c, hp, _ => hX.one hR hp
  | k + 2, p, c, hp, hc => by
    rw [hX.row hp, if_neg (by have := hR.fin p hp; omega), Nat.add_zero]
    refine sum_none fun a ha => ?_
    obtain ⟨h0, h1, t, e, ht⟩ := hR.arc p hp a ha
    rw [e, Int.toNat_natCast]
    exact XP.neg hX hR (k + 1) t _ ht (by omega)
theorem XP.cnt (hX : XP l X) (hR : RgtL l) : ∀ (k p c : Nat) (r : Int), p < l.length → (k : Int) ≤ r → r < 2147483648 → X (k + 1) p ((c : Int) * 2147483648 + r) = sN l k p c
  | 0, p, c, r, hp, _, _ => by rw [hX.one hR hp, sN_zero]
  | k + 1, p, c, r, hp, h0, h1 => by
    rw [hX.row hp, sN_front, Nat.add_comm]
    have hf := hR.fin p hp
    congr 1
    · unfold fE
      by_cases g : (el l p).1 ≠ 1000000001 ∧ (el l p).1.toNat ≤ c
      · rw [if_pos g, if_pos ⟨g.1, by omega⟩]
      · rw [if_neg g, if_neg (fun x => g ⟨x.1, by have := x.2; omega⟩)]
    · congr 1
      refine List.map_congr_left fun a ha => ?_
      obtain ⟨w0, w1, t, e, ht⟩ := hR.arc p hp a ha
      rw [e, Int.toNat_natCast]
      split
      · rename_i g
        rw [show (c : Int) * 2147483648 + r - (a.2.2.1 * 2147483648 + 1) = ((c - a.2.2.1.toNat : Nat) : Int) * 2147483648 + (r - 1) by omega]
        exact XP.cnt hX hR k t _ _ ht (by omega) (by omega)
      · rename_i g
        exact hX.neg hR _ t _ ht (by omega)
end
end Go.Proofs.Ytfpibdaedfilaaa.Pl
namespace Go.Proofs.Ytfpibdaedfilaaa.Pl
set_option linter.unusedVariables false
def infW (a b : Int) : Bool := a == 1000000001 && b == 1000000001
def fnW (a : Int) : Bool := decide (0 ≤ a) && decide (a ≤ 1000000000)
def mayW (a b : Int) : Bool := infW a b || fnW a && fnW b
def lsW (a b c d : Int) : Bool := decide (a < c) || a == c && decide (b < d)
theorem mayW_iff {a b : Int} : mayW a b = true ↔ (a = 1000000001 ∧ b = 1000000001) ∨ ((0 ≤ a ∧ a ≤ 1000000000) ∧ (0 ≤ b ∧ b ≤ 1000000000)) := by
 simp [mayW, infW, fnW]
def thnW (a b c d : Int) : Int × Int × Int := if (infW a b || infW c d) = true then (1000000001, 1000000001, 0) else if 1000000000 < a + c ∨ 1000000000 < b + d then (0, 0, 4) else (a + c, b + d, 0)
theorem lsW_key (x y : Int) : lsW (kA x) (kB x) (kA y) (kB y) = decide (x < y) := by
 have h := key_less x y
 unfold lsW
 by_cases g : x < y
 ·rw [decide_eq_true g]
  rcases h.1 g with k | ⟨k1, k2⟩
  ·simp [k]
  ·simp [k1, k2]
 ·rw [decide_eq_false g]
  have h1 : ¬ kA x < kA y := fun k => g (h.2 (.inl k))
  have h2 : kA x = kA y → ¬ kB x < kB y := fun k1 k2 => g (h.2 (.inr ⟨k1, k2⟩))
  by_cases e : kA x = kA y
  ·simp [e, h2 e]
  ·simp [e, h1]
theorem keyOk_may {x : Int} (h : KeyOk x) : mayW (kA x) (kB x) = true := mayW_iff.2 (by
 rcases h with rfl | h
 ·exact .inl noK_parts
 ·exact .inr ⟨⟨h.1, h.2.1⟩, h.2.2⟩)
def timW (a b c d : Int) : Int × Int × Int := if (mayW a b && mayW c d) = true then thnW a b c d else (0, 0, 2)
theorem infW_key {x : Int} : infW (kA x) (kB x) = true ↔ x = noK := by
 unfold infW
 rw [Bool.and_eq_true, beq_iff_eq, beq_iff_eq, key_eq x noK, noK_parts.1, noK_parts.2]
theorem timW_key {x y : Int} (hx : KeyOk x) (hy : KeyOk y) : ((timW (kA x) (kB x) (kA y) (kB y)).2.2 = 0 ∧ (timW (kA x) (kB x) (kA y) (kB y)).1 = kA (bothK x y) ∧ (timW (kA x) (kB x) (kA y) (kB y)).2.1 = kB (bothK x y)) ∨ ((timW (kA x) (kB x) (kA y) (kB y)).2.2 = 4 ∧ bothK x y = noK) := by
 unfold timW
 rw [keyOk_may hx, keyOk_may hy, if_pos (by rfl)]
 unfold thnW
 by_cases h : (infW (kA x) (kB x) || infW (kA y) (kB y)) = true
 ·rw [if_pos h]
  left
  have e : bothK x y = noK := by
   rw [Bool.or_eq_true, infW_key, infW_key] at h
   unfold bothK
   refine if_neg ?_
   unfold KeyOk at hx hy
   rcases h with rfl | rfl
   ·rw [noK_parts.1]
    rcases hy with rfl | hy
    ·rw [noK_parts.1]; omega
    ·omega
   ·rw [noK_parts.1]
    rcases hx with rfl | hx
    ·rw [noK_parts.1]; omega
    ·omega
  rw [e]
  exact ⟨rfl, noK_parts.1.symm, noK_parts.2.symm⟩
 ·rw [if_neg h]
  rw [Bool.or_eq_true, infW_key, infW_key] at h
  have hx2 := hx.resolve_left fun g => h (.inl g)
  have hy2 := hy.resolve_left fun g => h (.inr g)
  unfold bothK
  by_cases g : kA x + kA y ≤ 1000000000 ∧ kB x + kB y ≤ 1000000000
  ·left
   rw [if_neg (by omega), if_pos g]
   unfold kA kB at *
   refine ⟨rfl, ?_, ?_⟩ <;> simp only <;> omega
  ·right
   rw [if_pos (by omega), if_neg g]
   exact ⟨rfl, rfl⟩
end Go.Proofs.Ytfpibdaedfilaaa.Pl
