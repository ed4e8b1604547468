/- Costs that rise, of which so many are kept (no program in sight). -/
import Derived.Test.YtfpibdaedfilaaaHan
import Derived.Test.YtfpibdaedfilaaaHaf
namespace Go.Proofs.Ytfpibdaedfilaaa.Pl
set_option linter.unusedVariables false
set_option linter.unusedSimpArgs false
def cLe (l : List Int) (c : Int) : Nat := l.countP fun x => decide (x ≤ c)
def RisL (l : List Int) : Prop := l.Pairwise (· ≤ ·)
def insS (x : Int) : List Int → List Int
 | [] => [x]
 | y :: l => if x < y then x :: y :: l else y :: insS x l
theorem insS_perm (x : Int) (l : List Int) : (insS x l).Perm (x :: l) := by
  induction l with
  | nil => exact List.Perm.refl _
  | cons y l ih =>
    unfold insS
    split
    · exact List.Perm.refl _
    · exact (List.Perm.cons y ih).trans (List.Perm.swap x y l)
theorem insS_ris {x : Int} {l : List Int} (h : RisL l) : RisL (insS x l) := by
  induction l with
  | nil => exact List.pairwise_singleton _ _
  | cons y l ih =>
    unfold RisL at *
    rw [List.pairwise_cons] at h
    unfold insS
    split
    · rename_i g
      rw [List.pairwise_cons, List.pairwise_cons]
      refine ⟨fun z hz => ?_, h⟩
      rcases List.mem_cons.1 hz with rfl | hz
      · omega
      · have := h.1 z hz; omega
    · rename_i g
      rw [List.pairwise_cons]
      refine ⟨fun z hz => ?_, ih h.2⟩
      rcases List.mem_cons.1 ((insS_perm x l).mem_iff.1 hz) with rfl | hz
      · omega
      · exact h.1 z hz
theorem cLe_perm {l r : List Int} (h : l.Perm r) (c : Int) : cLe l c = cLe r c := h.countP_eq _
theorem cLe_cons (x : Int) (l : List Int) (c : Int) : cLe (x :: l) c = cLe l c + if x ≤ c then 1 else 0 := by
 unfold cLe
 rw [List.countP_cons]
 simp
theorem cLe_ins (x : Int) (l : List Int) (c : Int) : cLe (insS x l) c = cLe l c + if x ≤ c then 1 else 0 := by
 rw [cLe_perm (insS_perm x l), cLe_cons]
theorem cLe_len (l : List Int) (c : Int) : cLe l c ≤ l.length := List.countP_le_length
theorem cLe_none {l : List Int} {c : Int} (h : ∀ x ∈ l, c < x) : cLe l c = 0 := List.countP_eq_zero.2 fun x hx => by have := h x hx; simp; omega
theorem cLe_take {l : List Int} (h : RisL l) (n : Nat) (c : Int) : cLe (l.take n) c = min n (cLe l c) := by
  induction l generalizing n with
  | nil => simp [cLe]
  | cons x l ih =>
    unfold RisL at h
    rw [List.pairwise_cons] at h
    cases n with
    | zero => simp [cLe]
    | succ n =>
      rw [List.take_succ_cons, cLe_cons, cLe_cons, ih h.2]
      split
      · omega
      · rename_i g
        have : cLe l c = 0 := cLe_none fun y hy => by have := h.1 y hy; omega
        rw [this]; omega
theorem ris_take {l : List Int} (h : RisL l) (n : Nat) : RisL (l.take n) := h.sublist (List.take_sublist n l)
theorem ris_one {l r : List Int} (hl : RisL l) (hr : RisL r) (hn : l.length = r.length) (h : ∀ c, cLe l c = cLe r c) : l = r := by
  induction l generalizing r with
  | nil => symm; exact List.eq_nil_of_length_eq_zero hn.symm
  | cons x l ih =>
    cases r with
    | nil => simp at hn
    | cons y r =>
      unfold RisL at hl hr
      rw [List.pairwise_cons] at hl hr
      have e : x = y := by
        have h1 := h x
        have h2 := h y
        rw [cLe_cons, cLe_cons] at h1 h2
        rcases Int.lt_trichotomy x y with g | g | g
        · rw [if_pos (Int.le_refl _), if_neg (by omega), cLe_none (l := r) fun z hz => by have := hr.1 z hz; omega] at h1
          omega
        · exact g
        · rw [if_neg (by omega), if_pos (Int.le_refl _), cLe_none (l := l) fun z hz => by have := hl.1 z hz; omega] at h2
          omega
      subst e
      rw [ih hl.2 hr.2 (by simpa using hn) fun c => by have := h c; rw [cLe_cons, cLe_cons] at this; omega]
theorem cLe_big {l : List Int} : ∃ c : Nat, ∀ d : Int, (c : Int) ≤ d → cLe l d = l.length := by
  induction l with
  | nil => exact ⟨0, fun _ _ => rfl⟩
  | cons x l ih =>
    obtain ⟨c, hc⟩ := ih
    refine ⟨max c x.toNat, fun d hd => ?_⟩
    rw [cLe_cons, hc d (by omega), if_pos (by omega)]
    rfl
structure CheapN (l : List St) (q n : Nat) (L : List Int) : Prop where
 ris : RisL L
 pos : ∀ x ∈ L, 0 ≤ x
 cnt : ∀ c : Nat, cLe L c = min n (sN l (l.length * (n + 1) + 1) q c)
theorem cLe_neg {L : List Int} (h : ∀ x ∈ L, 0 ≤ x) {c : Int} (hc : c < 0) : cLe L c = 0 := cLe_none fun x hx => by have := h x hx; omega
theorem CheapN.one {l : List St} {q n : Nat} {L R : List Int} (h : CheapN l q n L) (k : CheapN l q n R) : L = R := by
 have hc : ∀ c, cLe L c = cLe R c := fun c => by
  rcases Int.lt_or_le c 0 with g | g
  ·rw [cLe_neg h.pos g, cLe_neg k.pos g]
  ·have e : c = (c.toNat : Int) := by omega
   rw [e, h.cnt, k.cnt]
 refine ris_one h.ris k.ris ?_ hc
 obtain ⟨a, ha⟩ := cLe_big (l := L)
 obtain ⟨b, hb⟩ := cLe_big (l := R)
 have h1 := ha (max a b : Nat) (by omega)
 have h2 := hb (max a b : Nat) (by omega)
 rw [← h1, ← h2]; exact hc _
theorem CheapN.len {l : List St} {q n : Nat} {L : List Int} (h : CheapN l q n L) : L.length ≤ n := by
 obtain ⟨a, ha⟩ := cLe_big (l := L)
 rw [← ha a (Int.le_refl _), h.cnt]
 omega
structure RndN (l : List St) (k q n : Nat) (L : List Int) : Prop where
 ris : RisL L
 pos : ∀ x ∈ L, 0 ≤ x
 cnt : ∀ c : Nat, cLe L c = min n (sN l k q c)
theorem RndN.done {l : List St} (hto : ∀ q, q < l.length → ∀ a ∈ (el l q).2, ∃ t : Nat, a.2.2.2 = (t : Int) ∧ t < l.length) {k q n : Nat} {L : List Int} (h : RndN l k q n L) (hq : q < l.length) (hk : l.length * (n + 1) ≤ k) : CheapN l q n L :=
  ⟨h.ris, h.pos, fun c => by rw [h.cnt]; rcases Nat.le_total k (l.length * (n + 1) + 1) with g | g
                             · exact (sN_stable hto hq hk g).symm
                             · exact sN_stable hto hq (by omega) g⟩
structure InsN (n : Nat) (P : Nat → Nat) (L : List Int) : Prop where
 ris : RisL L
 pos : ∀ x ∈ L, 0 ≤ x
 cnt : ∀ c : Nat, cLe L c = min n (P c)
theorem InsN.nil (n : Nat) : InsN n (fun _ => 0) [] := ⟨List.Pairwise.nil, fun x hx => absurd hx (by simp), fun c => by simp [cLe]⟩
theorem InsN.ins {n : Nat} {P : Nat → Nat} {L : List Int} (h : InsN n P L) {x : Int} (hx : 0 ≤ x) : InsN n (fun c => P c + if x ≤ (c : Int) then 1 else 0) ((insS x L).take n) := by
 refine ⟨ris_take (insS_ris h.ris) n, fun y hy => ?_, fun c => ?_⟩
 ·rcases List.mem_cons.1 ((insS_perm x L).mem_iff.1 (List.mem_of_mem_take hy)) with rfl | g
  ·exact hx
  ·exact h.pos y g
 ·rw [cLe_take (insS_ris h.ris), cLe_ins, h.cnt]
  split <;> omega
theorem InsN.congr {n : Nat} {P Q : Nat → Nat} {L : List Int} (h : InsN n P L) (e : ∀ c, min n (P c) = min n (Q c)) : InsN n Q L := ⟨h.ris, h.pos, fun c => by rw [h.cnt, e]⟩
def cUp (T : List Int) (w : Int) (j : Nat) (c : Nat) : Nat := cLe ((T.take j).map fun x => x + w) c
theorem cUp_zero (T : List Int) (w : Int) (c : Nat) : cUp T w 0 c = 0 := rfl
theorem cUp_succ {T : List Int} {w : Int} {j : Nat} (h : j < T.length) (c : Nat) : cUp T w (j + 1) c = cUp T w j c + if el T j + w ≤ (c : Int) then 1 else 0 := by
 unfold cUp
 rw [take_el h, List.map_append]
 unfold cLe
 rw [List.countP_append]
 simp
theorem cUp_all {l : List St} {k t n : Nat} {T : List Int} (h : RndN l k t n T) {w : Int} (hw : 0 ≤ w) (c : Nat) : cUp T w T.length c = if w.toNat ≤ c then min n (sN l k t (c - w.toNat)) else 0 := by
 unfold cUp
 rw [List.take_length]
 have e : cLe (T.map fun x => x + w) c = cLe T ((c : Int) - w) := by
  unfold cLe
  rw [List.countP_map]
  congr 1
  funext x
  simp only [Function.comp_def, decide_eq_decide]
  omega
 rw [e]
 split
 ·rw [show (c : Int) - w = ((c - w.toNat : Nat) : Int) by omega, h.cnt]
 ·exact cLe_neg h.pos (by omega)
def sA (l : List St) (k : Nat) (ar : List Ar) (c : Nat) : Nat := (ar.map fun a => if a.2.2.1.toNat ≤ c then sN l k a.2.2.2.toNat (c - a.2.2.1.toNat) else 0).sum
theorem InsN.arc {l : List St} {k n i : Nat} {ar : List Ar} {f : Nat → Nat} {T L : List Int} (hi : i < ar.length) {t : Nat} (ht : (el ar i).2.2.2 = (t : Int)) (hw : 0 ≤ (el ar i).2.2.1) (hT : RndN l k t n T) (h : InsN n (fun c => f c + sA l k (ar.take i) c + cUp T (el ar i).2.2.1 T.length c) L) : InsN n (fun c => f c + sA l k (ar.take (i + 1)) c) L := by
 refine h.congr fun c => ?_
 rw [cUp_all hT hw]
 unfold sA
 rw [take_el hi, List.map_append, List.sum_append]
 simp only [List.map_cons, List.map_nil, List.sum_cons, List.sum_nil, ht, Int.toNat_natCast, Nat.add_zero]
 split <;> omega
theorem RndN.next {l : List St} {k q n : Nat} {L : List Int} (h : InsN n (fun c => fE l q c + sA l k (el l q).2 c) L) : RndN l (k + 1) q n L :=
 ⟨h.ris, h.pos, fun c => by rw [h.cnt, sN_front]; rfl⟩
theorem RndN.zero (l : List St) (q n : Nat) : RndN l 0 q n [] := ⟨List.Pairwise.nil, fun x hx => absurd hx (by simp), fun c => by simp [cLe, sN_zero]⟩
theorem sumN_le {α : Type} {L : List α} {f g : α → Nat} (h : ∀ a ∈ L, f a ≤ g a) : (L.map f).sum ≤ (L.map g).sum := by
  induction L with
  | nil => exact Nat.le_refl _
  | cons a L ih =>
    have h1 := h a (List.mem_cons_self ..)
    have h2 := ih fun b hb => h b (List.mem_cons_of_mem _ hb)
    simp only [List.map_cons, List.sum_cons]; omega
theorem sumN_min {α : Type} {n : Nat} {L : List α} {f g : α → Nat} (h : ∀ a ∈ L, min n (f a) ≤ g a) : min n (L.map f).sum ≤ (L.map g).sum := by
  induction L with
  | nil => simp
  | cons a L ih =>
    have h1 := h a (List.mem_cons_self ..)
    have h2 := ih fun b hb => h b (List.mem_cons_of_mem _ hb)
    simp only [List.map_cons, List.sum_cons]; omega
theorem sumN_swap {α β : Type} (L : List α) (R : List β) (f : α → β → Nat) : (L.map fun a => (R.map fun b => f a b).sum).sum = (R.map fun b => (L.map fun a => f a b).sum).sum := by
  induction L with
  | nil =>
    simp only [List.map_nil, List.sum_nil]
    exact (sum_none fun _ _ => rfl).symm
  | cons a L ih =>
    simp only [List.map_cons, List.sum_cons, ih]
    rw [← sum_add]
theorem sumN_one {N q : Nat} (hq : q < N) (e : Nat → Nat) : ((List.range N).map fun j => if j = q then e j else 0).sum = e q := by
  induction N with
  | zero => omega
  | succ N ih =>
    rw [List.range_succ, List.map_append, List.sum_append]
    simp only [List.map_cons, List.map_nil, List.sum_cons, List.sum_nil, Nat.add_zero]
    by_cases h : q = N
    · subst h
      rw [if_pos rfl, sum_none fun j hj => if_neg (by have := List.mem_range.1 hj; omega), Nat.zero_add]
    · rw [ih (by omega), if_neg (Ne.symm h), Nat.add_zero]
def hC (H : List Ar) (p : Nat) (c : Int) : Nat := H.countP fun x => decide (x.1 = (p : Int)) && decide (x.2.2.2 ≤ c)
def sumS (st : List (List Ar)) (p : Nat) (g : Nat → Int → Nat) : Nat := ((List.range st.length).map fun q => ((el st q).map fun s => if s.1 = (p : Int) then g q s.2.2.2 else 0).sum).sum
def atS (start p : Nat) (c : Int) : Nat := if p = start ∧ 0 ≤ c then 1 else 0
def gC (st : List (List Ar)) (start : Nat) (F : List (List Int)) (p : Nat) (c : Int) : Nat := atS start p c + sumS st p fun q w => cLe (el F q) (c - w)
def wC (st : List (List Ar)) (start : Nat) : Nat → Nat → Int → Nat
 | 0 => fun _ _ => 0
 | k + 1 => fun p c => atS start p c + sumS st p fun q w => wC st start k q (c - w)
section
variable {st : List (List Ar)} {start n : Nat}
theorem sumS_le {p : Nat} {g h : Nat → Int → Nat} (hgh : ∀ q, q < st.length → ∀ s ∈ el st q, g q s.2.2.2 ≤ h q s.2.2.2) : sumS st p g ≤ sumS st p h :=
 sumN_le fun q hq => sumN_le fun s hs => by
  split
  ·exact hgh q (List.mem_range.1 hq) s hs
  ·exact Nat.le_refl _
theorem sumS_min {p : Nat} {g h : Nat → Int → Nat} (hgh : ∀ q, q < st.length → ∀ s ∈ el st q, min n (g q s.2.2.2) ≤ h q s.2.2.2) : min n (sumS st p g) ≤ sumS st p h :=
 sumN_min fun q hq => sumN_min fun s hs => by
  split
  ·exact hgh q (List.mem_range.1 hq) s hs
  ·simp
theorem sumS_congr {p : Nat} {g h : Nat → Int → Nat} (hgh : ∀ q, q < st.length → ∀ s ∈ el st q, g q s.2.2.2 = h q s.2.2.2) : sumS st p g = sumS st p h :=
 Nat.le_antisymm (sumS_le fun q hq s hs => Nat.le_of_eq (hgh q hq s hs)) (sumS_le fun q hq s hs => Nat.le_of_eq (hgh q hq s hs).symm)
theorem sumS_add {p : Nat} {g h : Nat → Int → Nat} : sumS st p (fun q w => g q w + h q w) = sumS st p g + sumS st p h := by
 unfold sumS
 rw [← sum_add]
 congr 1
 refine List.map_congr_left fun q _ => ?_
 rw [← sum_add]
 congr 1
 refine List.map_congr_left fun s _ => ?_
 split <;> rfl
theorem sumS_at {p q : Nat} (hq : q < st.length) (e : Int → Nat) : sumS st p (fun j w => if j = q then e w else 0) = ((el st q).map fun s => if s.1 = (p : Int) then e s.2.2.2 else 0).sum := by
 unfold sumS
 rw [← sumN_one hq fun j => ((el st j).map fun s => if s.1 = (p : Int) then e s.2.2.2 else 0).sum]
 congr 1
 refine List.map_congr_left fun j _ => ?_
 by_cases h : j = q
 ·subst h
  rw [if_pos rfl]
  simp only [if_pos]
 ·rw [if_neg h]
  refine sum_none fun s _ => ?_
  simp only [if_neg h]
  split <;> rfl
def totF (F : List (List Int)) : Nat := (F.map List.length).sum
theorem totF_set {F : List (List Int)} {q : Nat} (hq : q < F.length) (x : Int) : totF (F.set q (el F q ++ [x])) = totF F + 1 := by
  unfold totF
  induction F generalizing q with
  | nil => cases hq
  | cons a F ih =>
    cases q with
    | zero =>
      rw [List.set_cons_zero]
      simp only [List.map_cons, List.sum_cons, el_zero, List.length_append, List.length_singleton]
      omega
    | succ q =>
      rw [List.set_cons_succ]
      have h := ih (q := q) (by simpa using hq)
      have e : el (a :: F) (q + 1) = el F q := by simp [el]
      rw [e]
      simp only [List.map_cons, List.sum_cons]
      omega
theorem totF_le {F : List (List Int)} (h : ∀ p, p < F.length → (el F p).length ≤ n) : totF F ≤ F.length * n := by
  unfold totF
  induction F with
  | nil => simp
  | cons a F ih =>
    have h0 := h 0 (by simp)
    rw [el_zero] at h0
    have h1 := ih fun p hp => by
      have := h (p + 1) (by simpa using hp)
      have e : el (a :: F) (p + 1) = el F p := by simp [el]
      rw [e] at this; exact this
    rw [List.map_cons, List.sum_cons, List.length_cons, Nat.succ_mul]
    omega
theorem el_setF {F : List (List Int)} {q j : Nat} (hq : q < F.length) (v : List Int) : el (F.set q v) j = if j = q then v else el F j := by
 by_cases h : j = q
 ·subst h; rw [if_pos rfl, el_get (by simpa using hq)]; simp
 ·rw [if_neg h]; simp [el, List.getElem?_set_ne (Ne.symm h)]
structure CwI (CAP : Int) (st : List (List Ar)) (n start : Nat) (F : List (List Int)) (H : List Ar) : Prop where
 len : F.length = st.length
 few : ∀ p, p < st.length → (el F p).length ≤ n
 hto : ∀ x ∈ H, ∃ t : Nat, x.1 = (t : Int) ∧ t < st.length
 ord : ∀ p, p < st.length → ∀ y ∈ el F p, ∀ x ∈ H, y ≤ x.2.2.2
 ris : ∀ p, p < st.length → RisL (el F p)
 up : ∀ p, p < st.length → ∀ c, c < CAP → cLe (el F p) c + hC H p c ≤ gC st start F p c
 lo : ∀ p, p < st.length → ∀ c, c < CAP → min n (gC st start F p c) ≤ cLe (el F p) c + hC H p c
 wk : ∀ p, p < st.length → ∀ c, c < CAP → cLe (el F p) c + hC H p c ≤ wC st start (totF F + 1) p c
theorem hC_perm {H H' : List Ar} (h : H.Perm H') (p : Nat) (c : Int) : hC H p c = hC H' p c := h.countP_eq _
theorem hC_cons (x : Ar) (H : List Ar) (p : Nat) (c : Int) : hC (x :: H) p c = hC H p c + if x.1 = (p : Int) ∧ x.2.2.2 ≤ c then 1 else 0 := by
 unfold hC
 rw [List.countP_cons]
 by_cases h1 : x.1 = (p : Int) <;> by_cases h2 : x.2.2.2 ≤ c <;> simp [h1, h2]
theorem hC_app (H R : List Ar) (p : Nat) (c : Int) : hC (H ++ R) p c = hC H p c + hC R p c := by
 unfold hC
 rw [List.countP_append]
theorem hC_map (L : List Ar) (bk : Int → Int) (p : Nat) (c : Int) : hC (L.map fun s => (s.1, 0, 0, bk s.2.2.2)) p c = (L.map fun s => if s.1 = (p : Int) then (if bk s.2.2.2 ≤ c then 1 else 0) else 0).sum := by
  induction L with
  | nil => rfl
  | cons s L ih =>
    rw [List.map_cons, hC_cons, ih, List.map_cons, List.sum_cons]
    by_cases h1 : s.1 = (p : Int) <;> by_cases h2 : bk s.2.2.2 ≤ c <;> simp [h1, h2] <;> omega
theorem CwI.perm {CAP : Int} {F : List (List Int)} {H H' : List Ar} (h : CwI CAP st n start F H) (e : H'.Perm H) : CwI CAP st n start F H' :=
 ⟨h.len, h.few, fun x hx => h.hto x (e.mem_iff.1 hx), fun p hp y hy x hx => h.ord p hp y hy x (e.mem_iff.1 hx), h.ris, fun p hp c hc => by rw [hC_perm e]; exact h.up p hp c hc, fun p hp c hc => by rw [hC_perm e]; exact h.lo p hp c hc, fun p hp c hc => by rw [hC_perm e]; exact h.wk p hp c hc⟩
theorem el_nils (N j : Nat) : el (List.replicate N ([] : List Int)) j = [] := by
 by_cases h : j < N
 ·simp [el, h]
 ·simp [el, h]; rfl
theorem CwI.begin {CAP : Int} (hs : start < st.length) : CwI CAP st n start (List.replicate st.length []) [((start : Int), 0, 0, 0)] := by
 have hh : ∀ p c, hC [((start : Int), (0 : Int), (0 : Int), (0 : Int))] p c = atS start p c := fun p c => by
  rw [hC_cons]
  unfold atS
  have h0 : hC [] p c = 0 := rfl
  rw [h0, Nat.zero_add]
  by_cases h1 : p = start
  ·subst h1; simp
  ·have : ¬ (start : Int) = (p : Int) := by omega
   simp [h1, this]
 have hz : ∀ p (g : Nat → Int → Nat), (∀ q w, g q w = 0) → sumS st p g = 0 := fun p g hg => sum_none fun q _ => sum_none fun s _ => by rw [hg]; split <;> rfl
 have hn : ∀ c, cLe [] c = 0 := fun _ => rfl
 have hg : ∀ p c, gC st start (List.replicate st.length []) p c = atS start p c := fun p c => by
  unfold gC
  rw [hz p _ fun q w => by rw [el_nils]; rfl, Nat.add_zero]
 refine ⟨by simp, fun p _ => by rw [el_nils]; simp, fun x hx => ?_, fun p _ y hy => absurd hy (by rw [el_nils]; simp), fun p _ => by rw [el_nils]; exact List.Pairwise.nil, fun p _ c _ => ?_, fun p _ c _ => ?_, fun p _ c _ => ?_⟩
 ·rw [List.mem_singleton] at hx
  subst hx
  exact ⟨start, rfl, hs⟩
 ·rw [el_nils, hh, hg, hn]; omega
 ·rw [el_nils, hh, hg, hn]; omega
 ·rw [el_nils, hh, hn]
  show _ ≤ atS start p c + _
  omega
theorem cLe_neg1 {F : List (List Int)} {q : Nat} (hq : q < F.length) (x : Int) (j : Nat) (c : Int) : cLe (el (F.set q (el F q ++ [x])) j) c = cLe (el F j) c + if j = q then (if x ≤ c then 1 else 0) else 0 := by
 rw [el_setF hq]
 by_cases h : j = q
 ·subst h
  rw [if_pos rfl, if_pos rfl]
  unfold cLe
  rw [List.countP_append]
  simp
 ·rw [if_neg h, if_neg h, Nat.add_zero]
theorem CwI.find {CAP : Int} {F : List (List Int)} {H : List Ar} {x : Ar} {q : Nat} (h : CwI CAP st n start F (x :: H)) (hx : x.1 = (q : Int)) (hl : (el F q).length < n) (hmin : ∀ y ∈ H, x.2.2.2 ≤ y.2.2.2) (hw : ∀ j, j < st.length → ∀ s ∈ el st j, 0 ≤ s.2.2.2 ∧ ∃ t : Nat, s.1 = (t : Int) ∧ t < st.length) (bk : Int → Int) (hbk : ∀ s ∈ el st q, x.2.2.2 ≤ bk s.2.2.2 ∧ ∀ c, c < CAP → (bk s.2.2.2 ≤ c ↔ x.2.2.2 + s.2.2.2 ≤ c)) :
  CwI CAP st n start (F.set q (el F q ++ [x.2.2.2])) (H ++ (el st q).map fun s => (s.1, 0, 0, bk s.2.2.2)) := by
 obtain ⟨t, e, hq⟩ := h.hto x (List.mem_cons_self ..)
 have eq : t = q := by omega
 subst eq
 have hqF : t < F.length := by rw [h.len]; exact hq
 -- as many more are made as wait anew
 have hE : ∀ p c, c < CAP → hC ((el st t).map fun s => (s.1, 0, 0, bk s.2.2.2)) p c = ((el st t).map fun s => if s.1 = (p : Int) then (if x.2.2.2 ≤ c - s.2.2.2 then 1 else 0) else 0).sum := fun p c hc => by
  rw [hC_map]
  congr 1
  refine List.map_congr_left fun s hs => ?_
  have := (hbk s hs).2 c hc
  by_cases h1 : bk s.2.2.2 ≤ c
  ·rw [if_pos h1, if_pos (show x.2.2.2 ≤ c - s.2.2.2 by have := this.1 h1; omega)]
  ·rw [if_neg h1, if_neg (show ¬ x.2.2.2 ≤ c - s.2.2.2 from fun g => h1 (this.2 (by omega)))]
 have hG : ∀ p c, gC st start (F.set t (el F t ++ [x.2.2.2])) p c = gC st start F p c + ((el st t).map fun s => if s.1 = (p : Int) then (if x.2.2.2 ≤ c - s.2.2.2 then 1 else 0) else 0).sum := fun p c => by
  unfold gC
  rw [← sumS_at hq fun w => if x.2.2.2 ≤ c - w then 1 else 0, Nat.add_assoc, ← sumS_add]
  congr 1
  exact sumS_congr fun j _ s _ => cLe_neg1 hqF _ _ _
 have hH : ∀ p c, c < CAP → cLe (el (F.set t (el F t ++ [x.2.2.2])) p) c + hC (H ++ (el st t).map fun s => (s.1, 0, 0, bk s.2.2.2)) p c = (cLe (el F p) c + hC (x :: H) p c) + ((el st t).map fun s => if s.1 = (p : Int) then (if x.2.2.2 ≤ c - s.2.2.2 then 1 else 0) else 0).sum := fun p c hc => by
  rw [cLe_neg1 hqF, hC_app, hE p c hc, hC_cons, e]
  by_cases h1 : p = t
  ·subst h1
   by_cases h2 : x.2.2.2 ≤ c <;> simp [h2] <;> omega
  ·have h3 : ¬ (t : Int) = (p : Int) := by omega
   simp [h1, h3]; omega
 have hup : ∀ p, p < st.length → ∀ c, c < CAP → cLe (el (F.set t (el F t ++ [x.2.2.2])) p) c + hC (H ++ (el st t).map fun s => (s.1, 0, 0, bk s.2.2.2)) p c ≤ gC st start (F.set t (el F t ++ [x.2.2.2])) p c := fun p hp c hc => by
  rw [hH p c hc, hG]
  have := h.up p hp c hc
  omega
 refine ⟨by rw [List.length_set]; exact h.len, fun p hp => ?_, fun y hy => ?_, fun p hp y hy z hz => ?_, fun p hp => ?_, hup, fun p hp c hc => ?_, fun p hp c hc => ?_⟩
 ·rw [el_setF hqF]
  split
  ·simp; omega
  ·exact h.few p hp
 ·rcases List.mem_append.1 hy with hy | hy
  ·exact h.hto y (List.mem_cons_of_mem _ hy)
  ·obtain ⟨s, hs, rfl⟩ := List.mem_map.1 hy
   exact (hw t hq s hs).2
 ·have hzx : x.2.2.2 ≤ z.2.2.2 := by
   rcases List.mem_append.1 hz with hz | hz
   ·exact hmin z hz
   ·obtain ⟨s, hs, rfl⟩ := List.mem_map.1 hz
    exact (hbk s hs).1
  rw [el_setF hqF] at hy
  split at hy
  ·rename_i e1
   rcases List.mem_append.1 hy with hy | hy
   ·have := h.ord t hq y hy x (List.mem_cons_self ..); omega
   ·rw [List.mem_singleton.1 hy]; exact hzx
  ·have := h.ord p hp y hy x (List.mem_cons_self ..); omega
 ·rw [el_setF hqF]
  split
  ·refine List.pairwise_append.2 ⟨h.ris t hq, List.pairwise_singleton _ _, fun y hy z hz => ?_⟩
   rw [List.mem_singleton.1 hz]
   exact h.ord t hq y hy x (List.mem_cons_self ..)
  ·exact h.ris p hp
 ·rw [hH p c hc, hG]
  have := h.lo p hp c hc
  omega
 ·refine Nat.le_trans (hup p hp c hc) ?_
  rw [totF_set hqF]
  show atS start p c + _ ≤ atS start p c + _
  refine Nat.add_le_add_left (sumS_le fun j hj s hs => ?_) _
  have hc2 : c - s.2.2.2 < CAP := by have := (hw j hj s hs).1; omega
  refine Nat.le_trans ?_ (h.wk j hj _ hc2)
  rw [cLe_neg1 hqF, hC_cons, e]
  by_cases h1 : j = t
  ·subst h1
   by_cases h2 : x.2.2.2 ≤ c - s.2.2.2 <;> simp [h2] <;> omega
  ·rw [if_neg h1]; omega
theorem CwI.drop {CAP : Int} {F : List (List Int)} {H : List Ar} {x : Ar} {q : Nat} (h : CwI CAP st n start F (x :: H)) (hx : x.1 = (q : Int)) (hl : (el F q).length = n) : CwI CAP st n start F H := by
 obtain ⟨t, e, hq⟩ := h.hto x (List.mem_cons_self ..)
 have eq : t = q := by omega
 subst eq
 have hle : ∀ p c, hC H p c ≤ hC (x :: H) p c := fun p c => by rw [hC_cons]; omega
 refine ⟨h.len, h.few, fun y hy => h.hto y (List.mem_cons_of_mem _ hy), fun p hp y hy z hz => h.ord p hp y hy z (List.mem_cons_of_mem _ hz), h.ris, fun p hp c hc => ?_, fun p hp c hc => ?_, fun p hp c hc => ?_⟩
 ·have := h.up p hp c hc; have := hle p c; omega
 ·have h1 := h.lo p hp c hc
  rw [hC_cons] at h1
  by_cases h2 : x.1 = (p : Int) ∧ x.2.2.2 ≤ c
  ·have ep : p = t := by omega
   subst ep
   have h3 : cLe (el F p) c = n := by
    rw [← hl]
    unfold cLe
    refine List.countP_eq_length.2 fun y hy => ?_
    have := h.ord p hp y hy x (List.mem_cons_self ..)
    simp; omega
   omega
  ·rw [if_neg h2] at h1
   exact h1
 ·have := h.wk p hp c hc; have := hle p c; omega
theorem wC_succ (k p : Nat) (c : Int) : wC st start (k + 1) p c = atS start p c + sumS st p fun q w => wC st start k q (c - w) := rfl
theorem wC_mono {j k : Nat} (h : j ≤ k) : ∀ p c, wC st start j p c ≤ wC st start k p c := by
  induction j generalizing k with
  | zero => intro p c; exact Nat.zero_le _
  | succ j ih =>
    intro p c
    cases k with
    | zero => omega
    | succ k =>
      rw [wC_succ, wC_succ]
      exact Nat.add_le_add_left (sumS_le (g := fun q w => wC st start j q (c - w)) (h := fun q w => wC st start k q (c - w)) fun q _ s _ => ih (Nat.le_of_succ_le_succ h) q (c - s.2.2.2)) _
theorem CwI.done {CAP : Int} {F : List (List Int)} (h : CwI CAP st n start F []) (hw : ∀ j, j < st.length → ∀ s ∈ el st j, 0 ≤ s.2.2.2 ∧ ∃ t : Nat, s.1 = (t : Int) ∧ t < st.length) {k : Nat} (hk : st.length * n + 1 ≤ k) : ∀ p, p < st.length → ∀ c, c < CAP → cLe (el F p) c = min n (wC st start k p c) := by
  have h0 : ∀ p c, hC [] p c = 0 := fun _ _ => rfl
  have hlow : ∀ k p, p < st.length → ∀ c, c < CAP → min n (wC st start k p c) ≤ cLe (el F p) c := by
    intro k
    induction k with
    | zero => intro p hp c hc; show min n 0 ≤ _; omega
    | succ k ih =>
      intro p hp c hc
      have h1 := h.lo p hp c hc
      rw [h0, Nat.add_zero] at h1
      refine Nat.le_trans ?_ h1
      have h2 : min n (sumS st p fun q w => wC st start k q (c - w)) ≤ sumS st p fun q w => cLe (el F q) (c - w) := sumS_min fun q hq s hs => ih q hq _ (by have := (hw q hq s hs).1; omega)
      rw [wC_succ]
      unfold gC
      omega
  intro p hp c hc
  have h1 := hlow k p hp c hc
  have h2 := h.wk p hp c hc
  rw [h0, Nat.add_zero] at h2
  have h3 : totF F ≤ st.length * n := by
    have := totF_le (n := n) (F := F) fun p hp => h.few p (by rw [← h.len]; exact hp)
    rw [h.len] at this; exact this
  have h4 := wC_mono (st := st) (start := start) (j := totF F + 1) (k := k) (by omega) p c
  have h5 := h.few p hp
  have h6 := cLe_len (el F p) c
  omega
theorem wC_front (hs : ∀ j, j < st.length → ∀ s ∈ el st j, ∃ t : Nat, s.1 = (t : Int) ∧ t < st.length) : ∀ {k start : Nat}, start < st.length → ∀ p c, wC st start (k + 1) p c = atS start p c + ((el st start).map fun s => wC st s.1.toNat k p (c - s.2.2.2)).sum
  | 0, start, h0, p, c => by
    rw [wC_succ]
    congr 1
    have e1 : sumS st p (fun q w => wC st start 0 q (c - w)) = 0 := sum_none fun q _ => sum_none fun s _ => by split <;> rfl
    rw [e1]
    exact (sum_none fun s _ => rfl).symm
  | k + 1, start, h0, p, c => by
    rw [wC_succ]
    congr 1
    have e1 : sumS st p (fun q w => wC st start (k + 1) q (c - w)) = sumS st p (fun q w => atS start q (c - w)) + sumS st p fun q w => ((el st start).map fun s => wC st s.1.toNat k q (c - w - s.2.2.2)).sum := by
      rw [← sumS_add]
      exact sumS_congr fun q _ s _ => wC_front hs h0 _ _
    have e2 : sumS st p (fun q w => atS start q (c - w)) = ((el st start).map fun s => if s.1 = (p : Int) then (if 0 ≤ c - s.2.2.2 then 1 else 0) else 0).sum := by
      rw [← sumS_at h0 fun w => if 0 ≤ c - w then 1 else 0]
      refine sumS_congr fun q _ s _ => ?_
      unfold atS
      by_cases h1 : q = start <;> by_cases h2 : 0 ≤ c - s.2.2.2 <;> simp [h1, h2]
    have e3 : sumS st p (fun q w => ((el st start).map fun s => wC st s.1.toNat k q (c - w - s.2.2.2)).sum) = ((el st start).map fun s => sumS st p fun q w => wC st s.1.toNat k q (c - s.2.2.2 - w)).sum := by
      unfold sumS
      rw [sumN_swap]
      congr 1
      refine List.map_congr_left fun q _ => ?_
      rw [sumN_swap]
      congr 1
      refine List.map_congr_left fun s _ => ?_
      by_cases h1 : s.1 = (p : Int)
      · simp only [if_pos h1]
        congr 1
        refine List.map_congr_left fun s' _ => ?_
        rw [show c - s.2.2.2 - s'.2.2.2 = c - s'.2.2.2 - s.2.2.2 by omega]
      · simp only [if_neg h1]
        exact (sum_none fun s' _ => rfl).symm
    rw [e1, e2, e3, ← sum_add]
    congr 1
    refine List.map_congr_left fun s hs2 => ?_
    rw [wC_succ]
    congr 1
    obtain ⟨t, e, ht⟩ := hs start h0 s hs2
    unfold atS
    rw [e, Int.toNat_natCast]
    by_cases h1 : p = t
    · subst h1
      by_cases h2 : 0 ≤ c - s.2.2.2 <;> simp [h2]
    · have h3 : ¬ (t : Int) = (p : Int) := by omega
      simp [h1, h3]
end
structure FrT (l : List St) (fr : List Int) : Prop where
 len : fr.length = l.length
 val : ∀ q, q < l.length → (el fr q = 1000000001 ∧ ∀ c, ¬ EndC l q c) ∨ ∃ c : Nat, LeastP (EndC l q) c ∧ c ≤ 1000000000 ∧ el fr q = (c : Int)
def TgA (fr : List Int) (q : Nat) (a : Ar) : Prop := el fr a.2.2.2.toNat ≠ 1000000001 ∧ a.2.2.1 + el fr a.2.2.2.toNat = el fr q
def TgN (l : List St) (fr : List Int) : Nat → Nat → Prop
 | 0 => fun q => el fr q ≠ 1000000001 ∧ (el l q).1 = el fr q
 | k + 1 => fun q => ∃ a ∈ (el l q).2, TgA fr q a ∧ TgN l fr k a.2.2.2.toNat
section
variable {l : List St} {fr : List Int}
def LenA (l : List St) (fr : List Int) (q k : Nat) : Prop := LeastP (fun k => TgN l fr k q) k
inductive BstW (l : List St) (fr : List Int) : Nat → Nat → List Nat → Prop
 | nil {q : Nat} : BstW l fr 0 q []
 | cons {k q i : Nat} {L : List Nat} (hi : i < (el l q).2.length) (ha : TgA fr q (el (el l q).2 i)) (hk : LenA l fr (el (el l q).2 i).2.2.2.toNat k) (hf : ∀ j, j < i → ¬ (TgA fr q (el (el l q).2 j) ∧ LenA l fr (el (el l q).2 j).2.2.2.toNat k)) (h : BstW l fr k (el (el l q).2 i).2.2.2.toNat L) : BstW l fr (k + 1) q (i :: L)
end
structure LnT (l : List St) (fr : List Int) (N : Int) (ls : List Int) : Prop where
 len : ls.length = l.length
 rng : ∀ q, q < l.length → 0 ≤ el ls q ∧ el ls q ≤ N
 had : ∀ q, q < l.length → el ls q < N → TgN l fr (el ls q).toNat q
section
variable {l : List St} {fr : List Int} {N : Int} {ls : List Int}
end
def CostAns (m : Mc) (n : Int) (L : List Int) (e : Int) : Prop :=
 (faultM m ≠ 0 ∧ L = [] ∧ e = faultM m) ∨ (faultM m = 0 ∧ ¬ (0 ≤ n ∧ n ≤ 20) ∧ L = [] ∧ e = 2) ∨
 (faultM m = 0 ∧ 0 ≤ n ∧ n ≤ 20 ∧ ∃ vs ec, DstAns m (EndC m.2) vs ec ∧ ((ec ≠ 0 ∧ L = [] ∧ e = ec) ∨
  (ec = 0 ∧ m.1 < 0 ∧ L = [] ∧ e = 0) ∨ (ec = 0 ∧ 0 ≤ m.1 ∧ ∃ R, CheapN m.2 m.1.toNat n.toNat R ∧ (((∃ x ∈ R, 1000000000 < x) ∧ L = [] ∧ e = 4) ∨ ((∀ x ∈ R, x ≤ 1000000000) ∧ L = R ∧ e = 0)))))
end Go.Proofs.Ytfpibdaedfilaaa.Pl
namespace Go.Proofs.Ytfpibdaedfilaaa.Pl
set_option linter.unusedVariables false
theorem InsN.fin {l : List St} {q n : Nat} (h0 : 0 ≤ (el l q).1) (h1 : (el l q).1 ≠ 1000000001) (k : Nat) (ar : List Ar) : InsN n (fun c => fE l q c + sA l k (ar.take 0) c) ((insS (el l q).1 []).take n) := by
 refine ((InsN.nil n).ins h0).congr fun c => ?_
 simp only [sA, List.take_zero, List.map_nil, List.sum_nil, Nat.add_zero, Nat.zero_add, fE]
 by_cases g : (el l q).1 ≤ (c : Int)
 ·rw [if_pos g, if_pos ⟨h1, by omega⟩]
 ·rw [if_neg g, if_neg (fun x => g (by omega))]
theorem InsN.nofin {l : List St} {q n : Nat} (h1 : (el l q).1 = 1000000001) (k : Nat) (ar : List Ar) : InsN n (fun c => fE l q c + sA l k (ar.take 0) c) [] := by
 refine (InsN.nil n).congr fun c => ?_
 simp only [sA, List.take_zero, List.map_nil, List.sum_nil, Nat.add_zero, fE]
 rw [if_neg (fun x => x.1 h1)]
theorem InsN.up {n j : Nat} {P : Nat → Nat} {T L : List Int} {w : Int} (hj : j < T.length) (hp : 0 ≤ el T j + w) (h : InsN n (fun c => P c + cUp T w j c) L) : InsN n (fun c => P c + cUp T w (j + 1) c) ((insS (el T j + w) L).take n) :=
 (h.ins hp).congr fun c => by rw [cUp_succ hj]; simp only [Nat.add_assoc]
theorem InsN.up0 {n : Nat} {P : Nat → Nat} {T L : List Int} {w : Int} (h : InsN n P L) : InsN n (fun c => P c + cUp T w 0 c) L := h.congr fun c => by rw [cUp_zero, Nat.add_zero]
theorem right_nums {m : Mc} (hr : faultM m = 0) {q : Nat} (hq : q < m.2.length) : 0 ≤ (el m.2 q).1 ∧ (el m.2 q).1 ≤ 1000000001 ∧ ∀ i, i < (el m.2 q).2.length → 0 ≤ (el (el m.2 q).2 i).2.2.1 ∧ (el (el m.2 q).2 i).2.2.1 ≤ 1000000000 ∧ ∃ t : Nat, (el (el m.2 q).2 i).2.2.2 = (t : Int) ∧ t < m.2.length := by
 have h1 := (right_parts hr).2 _ (el_mem hq)
 simp only [stB, Bool.and_eq_true, List.all_eq_true] at h1
 have h0 := h1.1
 simp only [finB, inB, Bool.and_eq_true, Bool.or_eq_true, decide_eq_true_eq] at h0
 refine ⟨by omega, by omega, fun i hi => ?_⟩
 have h2 := h1.2 _ (el_mem hi)
 simp only [arcB, inB, Bool.and_eq_true, decide_eq_true_eq] at h2
 exact ⟨by omega, by omega, (el (el m.2 q).2 i).2.2.2.toNat, by omega, by omega⟩
end Go.Proofs.Ytfpibdaedfilaaa.Pl
