/- The cheapest ways first, over states: what is done, what waits (no program in sight). -/
import Derived.Test.YtfpibdaedfilaaaHad
import Derived.Test.YtfpibdaedfilaaaHaf
import Derived.Test.YtfpibdaedfilaaaHaa
import Derived.Test.YtfpibdaedfilaaaHab
import Derived.Laws.MakeOwn
namespace Go.Proofs.Ytfpibdaedfilaaa.Pl
set_option linter.unusedVariables false
set_option linter.unusedSimpArgs false
def wyD (p c : Nat) : Ar := ((p : Int), 0, 0, (c : Int))
theorem wyD_one {p q c d : Nat} (h : wyD p c = wyD q d) : p = q ∧ c = d := by
 simp only [wyD, Prod.mk.injEq, true_and] at h
 omega
inductive RchD (S : Nat → List Ar) (N : Nat) : Nat → Nat → Prop
 | nil : RchD S N N 0
 | step {q p c w : Nat} (h : RchD S N q c) (e : wyD p w ∈ S q) : RchD S N p (c + w)
def StpR (S : Nat → List Ar) (N : Nat) : Prop := ∀ q, q ≤ N → (S q).length ≤ 400 ∧ ∀ a ∈ S q, ∃ p w : Nat, a = wyD p w ∧ p < N ∧ w ≤ 1000000000
structure DijD (S : Nat → List Ar) (N : Nat) (D : Nat → Option Nat) (H : List Ar) (O : Nat → Nat → Prop) (b : Nat) : Prop where
 src : D N = some 0
 inn : ∀ q c, D q = some c → q ≤ N
 heap : ∀ h ∈ H, ∃ p c, h = wyD p c ∧ p < N ∧ RchD S N p c ∧ b ≤ c ∧ c ≤ 2000000000
 done : ∀ p c, D p = some c → RchD S N p c ∧ c ≤ b ∧ c ≤ 1000000000
 clos : ∀ q c, D q = some c → ∀ i, i < (S q).length → ¬ O q i → ∀ p w, el (S q) i = wyD p w → (∃ e, D p = some e ∧ e ≤ c + w) ∨ wyD p (c + w) ∈ H
def srcD (N : Nat) : Nat → Option Nat := fun q => if q = N then some 0 else none
def updD (D : Nat → Option Nat) (p c : Nat) : Nat → Option Nat := fun q => if q = p then some c else D q
section
variable {S : Nat → List Ar} {N : Nat} {D : Nat → Option Nat} {H H' : List Ar} {b : Nat}
theorem DijD.start : DijD S N (srcD N) [] (fun q i => q = N ∧ 0 ≤ i) 0 := by
 have h0 : ∀ {q c}, srcD N q = some c → q = N ∧ c = 0 := fun {q c} h => by
  unfold srcD at h
  split at h
  ·rename_i e; injection h with h; exact ⟨e, h.symm⟩
  ·cases h
 refine ⟨by simp [srcD], fun q c h => by have := h0 h; omega, fun h hh => (by cases hh), fun p c h => ?_, fun q c h i hi hO => absurd ⟨(h0 h).1, Nat.zero_le _⟩ hO⟩
 obtain ⟨rfl, rfl⟩ := h0 h
 exact ⟨.nil, Nat.le_refl _, by omega⟩
theorem popD_split {p c q e : Nat} (hp : (wyD p c :: H').Perm H) (hq : wyD q e ∈ H) : (q = p ∧ e = c) ∨ wyD q e ∈ H' := by
 rcases List.mem_cons.1 (hp.mem_iff.2 hq) with g | g
 ·exact .inl (wyD_one g)
 ·exact .inr g
theorem DijD.old (h : DijD S N D H (fun _ _ => False) b) {p c d : Nat} (hp : (wyD p c :: H').Perm H) (hd : D p = some d) : DijD S N D H' (fun _ _ => False) b := by
 obtain ⟨p', c', e0, _, _, hbc, _⟩ := h.heap (wyD p c) (hp.mem_iff.1 List.mem_cons_self)
 obtain ⟨rfl, rfl⟩ := wyD_one e0
 have hdb := (h.done p d hd).2.1
 refine ⟨h.src, h.inn, fun a ha => h.heap a (hp.mem_iff.1 (List.mem_cons_of_mem _ ha)), h.done, fun q e hq i hi hO p' w hw => ?_⟩
 rcases h.clos q e hq i hi hO p' w hw with g | g
 ·exact .inl g
 ·rcases popD_split hp g with ⟨rfl, g2⟩ | g
  ·exact .inl ⟨d, hd, by omega⟩
  ·exact .inr g
theorem DijD.new (h : DijD S N D H (fun _ _ => False) b) {p c : Nat} (hp : (wyD p c :: H').Perm H) (hmin : ∀ a ∈ H', (c : Int) ≤ a.2.2.2) (hd : D p = none) (hc : c ≤ 1000000000) : DijD S N (updD D p c) H' (fun q i => q = p ∧ 0 ≤ i) c := by
 obtain ⟨p', c', e0, hpN, hr, hbc, _⟩ := h.heap (wyD p c) (hp.mem_iff.1 List.mem_cons_self)
 obtain ⟨rfl, rfl⟩ := wyD_one e0
 have hu : ∀ {q e}, updD D p c q = some e → (q = p ∧ e = c) ∨ (q ≠ p ∧ D q = some e) := fun {q e} hq => by
  unfold updD at hq
  split at hq
  ·rename_i g; injection hq with hq; exact .inl ⟨g, hq.symm⟩
  ·rename_i g; exact .inr ⟨g, hq⟩
 refine ⟨?_, fun q e hq => ?_, fun a ha => ?_, fun q e hq => ?_, fun q e hq i hi hO p' w hw => ?_⟩
 ·unfold updD; rw [if_neg (by omega)]; exact h.src
 ·rcases hu hq with ⟨rfl, _⟩ | ⟨_, hq⟩
  ·omega
  ·exact h.inn q e hq
 ·obtain ⟨q, e, rfl, k0, k1, k2, k3⟩ := h.heap a (hp.mem_iff.1 (List.mem_cons_of_mem _ ha))
  have := hmin _ ha
  simp only [wyD] at this
  exact ⟨q, e, rfl, k0, k1, by omega, k3⟩
 ·rcases hu hq with ⟨rfl, rfl⟩ | ⟨_, hq⟩
  ·exact ⟨hr, Nat.le_refl _, hc⟩
  ·obtain ⟨k1, k2, k3⟩ := h.done q e hq
   exact ⟨k1, by omega, k3⟩
 ·rcases hu hq with ⟨rfl, rfl⟩ | ⟨hne, hq⟩
  ·exact absurd ⟨rfl, Nat.zero_le _⟩ hO
  ·rcases h.clos q e hq i hi id p' w hw with ⟨e', g1, g2⟩ | g
   ·refine .inl ⟨e', ?_, g2⟩
    unfold updD
    rw [if_neg (fun g => by rw [g, hd] at g1; cases g1)]
    exact g1
   ·rcases popD_split hp g with ⟨rfl, g2⟩ | g
    ·exact .inl ⟨c, by simp [updD], by omega⟩
    ·exact .inr g
theorem DijD.push (hS : StpR S N) {p c k : Nat} (h : DijD S N D H (fun q i => q = p ∧ k ≤ i) c) (hpc : D p = some c) (hk : k < (S p).length) {p' w : Nat} (hw : el (S p) k = wyD p' w) (hp : H'.Perm (H ++ [wyD p' (c + w)])) : DijD S N D H' (fun q i => q = p ∧ k + 1 ≤ i) c := by
 obtain ⟨k1, _, k3⟩ := h.done p c hpc
 have hm : wyD p' w ∈ S p := by rw [← hw]; exact el_mem hk
 obtain ⟨p2, w2, e2, hpN, hwl⟩ := (hS p (h.inn p c hpc)).2 _ hm
 obtain ⟨rfl, rfl⟩ := wyD_one e2
 have hmem : ∀ a, a ∈ H' ↔ a ∈ H ∨ a = wyD p' (c + w) := fun a => by rw [hp.mem_iff, List.mem_append, List.mem_singleton]
 refine ⟨h.src, h.inn, fun a ha => ?_, h.done, fun q e hq i hi hO r v hr => ?_⟩
 ·rcases (hmem a).1 ha with g | g
  ·exact h.heap a g
  ·exact ⟨p', c + w, g, hpN, k1.step hm, by omega, by omega⟩
 ·by_cases e1 : q = p ∧ k ≤ i
  ·obtain ⟨rfl, e2⟩ := e1
   have e3 : i = k := by
    by_cases e4 : k + 1 ≤ i
    ·exact absurd ⟨rfl, e4⟩ hO
    ·omega
   subst e3
   rw [hw] at hr
   obtain ⟨rfl, rfl⟩ := wyD_one hr
   rw [hpc] at hq
   injection hq with hq
   subst hq
   exact .inr ((hmem _).2 (.inr rfl))
  ·rcases h.clos q e hq i hi e1 r v hr with g | g
   ·exact .inl g
   ·exact .inr ((hmem _).2 (.inl g))
theorem DijD.skip {p c k : Nat} (h : DijD S N D H (fun q i => q = p ∧ k ≤ i) c) (hpc : D p = some c) {p' w e : Nat} (hw : el (S p) k = wyD p' w) (he : D p' = some e) : DijD S N D H (fun q i => q = p ∧ k + 1 ≤ i) c := by
 refine ⟨h.src, h.inn, h.heap, h.done, fun q d hq i hi hO r v hr => ?_⟩
 by_cases e1 : q = p ∧ k ≤ i
 ·obtain ⟨rfl, e2⟩ := e1
  have e3 : i = k := by
   by_cases e4 : k + 1 ≤ i
   ·exact absurd ⟨rfl, e4⟩ hO
   ·omega
  subst e3
  rw [hw] at hr
  obtain ⟨rfl, rfl⟩ := wyD_one hr
  rw [hpc] at hq
  injection hq with hq
  have := (h.done p' e he).2.1
  exact .inl ⟨e, he, by omega⟩
 ·exact h.clos q d hq i hi e1 r v hr
theorem DijD.all {p c k : Nat} (h : DijD S N D H (fun q i => q = p ∧ k ≤ i) c) (hk : (S p).length ≤ k) : DijD S N D H (fun _ _ => False) c :=
 ⟨h.src, h.inn, h.heap, h.done, fun q d hq i hi _ r v hr => h.clos q d hq i hi (fun g => by rw [g.1] at hi; omega) r v hr⟩
theorem DijD.told (hS : StpR S N) (h : DijD S N D H (fun _ _ => False) b) {c : Nat} (hmin : ∀ a ∈ H, (c : Int) ≤ a.2.2.2) {p d : Nat} (hr : RchD S N p d) : (∃ e, D p = some e ∧ e ≤ d) ∨ c ≤ d := by
  induction hr with
  | nil => exact .inl ⟨0, h.src, Nat.le_refl _⟩
  | step hr e ih =>
    rename_i q p d w
    rcases ih with ⟨e1, g1, g2⟩ | g
    · obtain ⟨i, hi, hii⟩ := mem_el e
      rcases h.clos q e1 g1 i hi id p w hii with ⟨e2, g3, g4⟩ | g3
      · exact .inl ⟨e2, g3, by omega⟩
      · have := hmin _ g3
        simp only [wyD] at this
        exact .inr (by omega)
    · exact .inr (by omega)
def cstD (D : Nat → Option Nat) (q : Nat) : Int := match D q with | some c => (c : Int) | none => 1000000001
theorem DijD.ans (hS : StpR S N) (h : DijD S N D [] (fun _ _ => False) b) {P : Nat → Nat → Prop} (hP : ∀ q c, q < N → (P q c ↔ RchD S N q c)) {cs : List Int} (hl : cs.length = N) (hc : ∀ q, q < N → el cs q = cstD D q) : LstAns P N cs 0 := by
  refine .inl ⟨rfl, hl, fun q hq => ?_⟩
  rw [hc q hq]
  unfold cstD
  cases hd : D q with
  | none =>
    refine .inl ⟨fun c hc => ?_, rfl, rfl⟩
    rcases h.told hS (c := c + 1) (fun a ha => by cases ha) ((hP q c hq).1 hc) with ⟨e, g, _⟩ | g
    · rw [hd] at g; cases g
    · omega
  | some c =>
    obtain ⟨k1, _, k3⟩ := h.done q c hd
    refine .inr ⟨c, ⟨(hP q c hq).2 k1, fun d hd2 => ?_⟩, .inl ⟨k3, rfl, rfl⟩⟩
    rcases h.told hS (c := d + 1) (fun a ha => by cases ha) ((hP q d hq).1 hd2) with ⟨e, g, g2⟩ | g
    · rw [hd] at g; injection g with g; omega
    · omega
theorem DijD.over (hS : StpR S N) (h : DijD S N D H (fun _ _ => False) b) {P : Nat → Nat → Prop} (hP : ∀ q c, q < N → (P q c ↔ RchD S N q c)) {p c : Nat} (hp : (wyD p c :: H').Perm H) (hmin : ∀ a ∈ H', (c : Int) ≤ a.2.2.2) (hd : D p = none) (hc : 1000000000 < c) : LstAns P N [] 4 := by
 obtain ⟨p', c', e0, hpN, hr, _, _⟩ := h.heap (wyD p c) (hp.mem_iff.1 List.mem_cons_self)
 obtain ⟨rfl, rfl⟩ := wyD_one e0
 refine .inr ⟨rfl, rfl, p, hpN, .inr ⟨c, ⟨(hP p c hpN).2 hr, fun d hd2 => ?_⟩, .inr ⟨hc, rfl, rfl⟩⟩⟩
 have hm : ∀ a ∈ H, (c : Int) ≤ a.2.2.2 := fun a ha => by
  rcases List.mem_cons.1 (hp.mem_iff.2 ha) with g | g
  ·rw [g]; exact Int.le_refl _
  ·exact hmin a g
 rcases h.told hS (c := c) hm ((hP p d hpN).1 hd2) with ⟨e, g, _⟩ | g
 ·rw [hd] at g; cases g
 ·exact g
def DonB (D : Nat → Option Nat) (bs : List Bool) (N : Nat) : Prop := bs.length = N ∧ ∀ q, q < N → el bs q = (D q).isSome
def DonC (D : Nat → Option Nat) (cs : List Int) (N : Nat) : Prop := cs.length = N ∧ ∀ q, q < N → el cs q = cstD D q
theorem DonB.start (N : Nat) : DonB (srcD N) (List.replicate N false) N :=
 ⟨by simp, fun q hq => by rw [el_false]; unfold srcD; rw [if_neg (by omega)]; rfl⟩
theorem DonC.start (N : Nat) {cs : List Int} (hl : cs.length = N) (h : ∀ q, q < N → el cs q = 1000000001) : DonC (srcD N) cs N :=
 ⟨hl, fun q hq => by rw [h q hq]; unfold cstD srcD; rw [if_neg (by omega)]⟩
theorem DonB.put {bs : List Bool} (h : DonB D bs N) {p : Nat} (hp : p < N) (c : Nat) : DonB (updD D p c) (bs.set p true) N := by
 refine ⟨by rw [List.length_set]; exact h.1, fun q hq => ?_⟩
 rw [el_setB (by rw [h.1]; exact hp)]
 unfold updD
 split
 ·rfl
 ·exact h.2 q hq
theorem DonC.put {cs : List Int} (h : DonC D cs N) {p : Nat} (hp : p < N) (c : Nat) : DonC (updD D p c) (cs.set p (c : Int)) N := by
 refine ⟨by rw [List.length_set]; exact h.1, fun q hq => ?_⟩
 rw [el_setT (by rw [h.1]; exact hp)]
 unfold cstD updD
 split
 ·rfl
 ·exact h.2 q hq
theorem DonB.none {bs : List Bool} (h : DonB D bs N) {p : Nat} (hp : p < N) (hf : el bs p = false) : D p = none := by
 have := h.2 p hp
 rw [hf] at this
 cases hd : D p with
 | none => rfl
 | some c => rw [hd] at this; simp at this
theorem DonB.some {bs : List Bool} (h : DonB D bs N) {p : Nat} (hp : p < N) (hf : el bs p = true) : ∃ c, D p = some c := by
 have := h.2 p hp
 rw [hf] at this
 cases hd : D p with
 | none => rw [hd] at this; simp at this
 | some c => exact ⟨c, rfl⟩
end
def putW (t : Nat) (x : Ar) (f : Nat → List Ar) : Nat → List Ar := fun p => if p = t then f p ++ [x] else f p
def filA (k : Nat → Ar → Nat × Ar) (q : Nat) (ar : List Ar) (f : Nat → List Ar) : Nat → List Ar := ar.foldl (fun f a => putW (k q a).1 (k q a).2 f) f
def filS (k : Nat → Ar → Nat × Ar) (l : List St) (n : Nat) : Nat → List Ar := (List.range n).foldl (fun f q => filA k q (el l q).2 f) (fun _ => [])
def bkK (q : Nat) (a : Ar) : Nat × Ar := (a.2.2.2.toNat, wyD q a.2.2.1.toNat)
variable {k : Nat → Ar → Nat × Ar}
theorem filS_succ (l : List St) (n : Nat) : filS k l (n + 1) = filA k n (el l n).2 (filS k l n) := by
 unfold filS
 rw [List.range_succ, List.foldl_append]
 rfl
theorem filA_take (q : Nat) {ar : List Ar} {i : Nat} (h : i < ar.length) (f : Nat → List Ar) : filA k q (ar.take (i + 1)) f = putW (k q (el ar i)).1 (k q (el ar i)).2 (filA k q (ar.take i) f) := by
 unfold filA
 rw [take_el h, List.foldl_append]
 rfl
theorem filA_mem {q : Nat} {ar : List Ar} {f : Nat → List Ar} {p : Nat} {x : Ar} : x ∈ filA k q ar f p ↔ x ∈ f p ∨ ∃ a ∈ ar, k q a = (p, x) := by
  induction ar generalizing f with
  | nil => simp [filA]
  | cons a ar ih =>
    have : filA k q (a :: ar) f = filA k q ar (putW (k q a).1 (k q a).2 f) := rfl
    rw [this, ih]
    unfold putW
    by_cases e : p = (k q a).1
    · rw [if_pos e]
      simp only [List.mem_append, List.mem_cons, List.not_mem_nil, or_false]
      constructor
      · rintro ((h | h) | ⟨b, hb, h2⟩)
        · exact .inl h
        · exact .inr ⟨a, .inl rfl, by rw [e, h]⟩
        · exact .inr ⟨b, .inr hb, h2⟩
      · rintro (h | ⟨b, hb | hb, h2⟩)
        · exact .inl (.inl h)
        · exact .inl (.inr (by rw [← hb, h2]))
        · exact .inr ⟨b, hb, h2⟩
    · rw [if_neg e]
      simp only [List.mem_cons]
      constructor
      · rintro (h | ⟨b, hb, h2⟩)
        · exact .inl h
        · exact .inr ⟨b, .inr hb, h2⟩
      · rintro (h | ⟨b, hb | hb, h2⟩)
        · exact .inl h
        · subst hb; exact absurd (by rw [h2]) e
        · exact .inr ⟨b, hb, h2⟩
theorem filS_mem {l : List St} {n p : Nat} {x : Ar} : x ∈ filS k l n p ↔ ∃ q : Nat, q < n ∧ ∃ a ∈ (el l q).2, k q a = (p, x) := by
  induction n with
  | zero => simp [filS]
  | succ n ih =>
    rw [filS_succ, filA_mem, ih]
    constructor
    · rintro (⟨q, h2, h3⟩ | h2)
      · exact ⟨q, by omega, h3⟩
      · exact ⟨n, by omega, h2⟩
    · rintro ⟨q, h2, h3⟩
      by_cases e : q = n
      · subst e; exact .inr h3
      · exact .inl ⟨q, by omega, h3⟩
theorem filA_len (q : Nat) (ar : List Ar) (f : Nat → List Ar) (p : Nat) : (filA k q ar f p).length ≤ (f p).length + ar.length := by
  induction ar generalizing f with
  | nil => simp [filA]
  | cons a ar ih =>
    have : filA k q (a :: ar) f = filA k q ar (putW (k q a).1 (k q a).2 f) := rfl
    rw [this]
    have := ih (f := putW (k q a).1 (k q a).2 f)
    unfold putW at this ⊢
    simp only [List.length_cons]
    split at this <;> simp at this ⊢ <;> omega
theorem filS_len (l : List St) (n p : Nat) (hn : n ≤ l.length) : (filS k l n p).length ≤ arcN (l.take n) := by
  induction n with
  | zero => simp [filS]
  | succ n ih =>
    rw [filS_succ, arcN_take (by omega)]
    have := filA_len (k := k) n (el l n).2 (filS k l n) p
    have := ih (by omega)
    omega
def endW (l : List St) (n : Nat) : List Ar := ((List.range n).filter fun q => decide ((el l q).1 ≠ 1000000001)).map fun q => wyD q (el l q).1.toNat
theorem endW_succ (l : List St) (n : Nat) : endW l (n + 1) = endW l n ++ (if (el l n).1 ≠ 1000000001 then [wyD n (el l n).1.toNat] else []) := by
 unfold endW
 rw [List.range_succ, List.filter_append, List.map_append]
 by_cases h : (el l n).1 = 1000000001 <;> simp [h]
theorem endW_le (l : List St) (n : Nat) : (endW l n).length ≤ n := by
 unfold endW
 rw [List.length_map]
 exact Nat.le_trans (List.length_filter_le _ _) (by simp)
theorem endW_mem {l : List St} {n : Nat} {x : Ar} : x ∈ endW l n ↔ ∃ q : Nat, x = wyD q (el l q).1.toNat ∧ q < n ∧ (el l q).1 ≠ 1000000001 := by
 unfold endW
 simp only [List.mem_map, List.mem_filter, List.mem_range, decide_eq_true_eq]
 constructor
 ·rintro ⟨q, ⟨h1, h2⟩, rfl⟩; exact ⟨q, rfl, h1, h2⟩
 ·rintro ⟨q, rfl, h1, h2⟩; exact ⟨q, ⟨h1, h2⟩, rfl⟩
def stpW (F : List Ar) (f : Nat → List Ar) (N : Nat) : Nat → List Ar := fun q => if q = N then F else f q
theorem stpW_src (F : List Ar) (f : Nat → List Ar) (N : Nat) : stpW F f N N = F := if_pos rfl
theorem stpW_at {F : List Ar} {f : Nat → List Ar} {N q : Nat} (h : q < N) : stpW F f N q = f q := if_neg (by omega)
theorem arc_right {m : Mc} (h : faultM m = 0) {q : Nat} {a : Ar} (ha : a ∈ (el m.2 q).2) : ∃ p w : Nat, a.2.2.2 = (p : Int) ∧ a.2.2.1 = (w : Int) ∧ p < m.2.length ∧ w ≤ 1000000000 := by
 have h1 := (right_parts h).2 _ (el_mem (el_in ha))
 simp only [stB, Bool.and_eq_true, List.all_eq_true] at h1
 have h2 := h1.2 _ ha
 simp only [arcB, inB, Bool.and_eq_true, decide_eq_true_eq] at h2
 exact ⟨a.2.2.2.toNat, a.2.2.1.toNat, by omega, by omega, by omega, by omega⟩
theorem fil_len {m : Mc} (h : faultM m = 0) (p : Nat) : (filS k m.2 m.2.length p).length ≤ 400 := by
 have h1 := filS_len (k := k) m.2 m.2.length p (Nat.le_refl _)
 rw [List.take_length] at h1
 have h2 := (right_size (z := m.1) (l := m.2) h).2
 omega
theorem stpE_right {m : Mc} (h : faultM m = 0) : StpR (stpW (endW m.2 m.2.length) (filS bkK m.2 m.2.length) m.2.length) m.2.length := by
 have h60 := (right_size (z := m.1) (l := m.2) h).1
 intro q hq
 by_cases e : q = m.2.length
 ·subst e
  rw [stpW_src]
  refine ⟨by have := endW_le m.2 m.2.length; omega, fun a ha => ?_⟩
  obtain ⟨q, rfl, hq, hf⟩ := endW_mem.1 ha
  have := fin_small h hq hf
  exact ⟨q, (el m.2 q).1.toNat, rfl, hq, by omega⟩
 ·rw [stpW_at (by omega)]
  refine ⟨fil_len h q, fun a ha => ?_⟩
  obtain ⟨q', hq', b, hb, hk⟩ := filS_mem.1 ha
  obtain ⟨p, w, e1, e2, e3, e4⟩ := arc_right h hb
  simp only [bkK, Prod.mk.injEq] at hk
  refine ⟨q', w, ?_, hq', e4⟩
  rw [← hk.2, e2]
  rfl
theorem end_rch {m : Mc} (h : faultM m = 0) (q c : Nat) (hq : q < m.2.length) : EndC m.2 q c ↔ RchD (stpW (endW m.2 m.2.length) (filS bkK m.2 m.2.length) m.2.length) m.2.length q c := by
  constructor
  · rintro ⟨n, p, d, hr, hp, hf, rfl⟩
    have key : ∀ n q d, q < m.2.length → Run (ArcE m.2) q n p d → RchD (stpW (endW m.2 m.2.length) (filS bkK m.2 m.2.length) m.2.length) m.2.length q (d + (el m.2 p).1.toNat) := by
      intro n
      induction n with
      | zero =>
        intro q d hq hr
        cases hr
        exact RchD.step .nil (by rw [stpW_src]; exact endW_mem.2 ⟨p, rfl, hp, hf⟩)
      | succ n ih =>
        intro q d hq hr
        obtain ⟨j, w, c', e, hr', rfl⟩ := hr.head
        have hj := (arcE_small h e).1
        obtain ⟨a, ha, e1, e2⟩ := e
        have h1 := RchD.step (w := w) (p := q) (ih j c' hj hr') (by
          rw [stpW_at hj]
          refine filS_mem.2 ⟨q, hq, a, ha, ?_⟩
          simp only [bkK, e1, e2, Int.toNat_natCast])
        rw [show w + c' + (el m.2 p).1.toNat = c' + (el m.2 p).1.toNat + w by omega]
        exact h1
    exact key n q d hq hr
  · intro hr
    have key : ∀ q c, RchD (stpW (endW m.2 m.2.length) (filS bkK m.2 m.2.length) m.2.length) m.2.length q c → (q = m.2.length ∧ c = 0) ∨ (q < m.2.length ∧ EndC m.2 q c) := by
      intro q c hr
      induction hr with
      | nil => exact .inl ⟨rfl, rfl⟩
      | step hr e ih =>
        rename_i q p c w
        rcases ih with ⟨rfl, rfl⟩ | ⟨hq, n, p0, d, hn, hp0, hf, rfl⟩
        · rw [stpW_src] at e
          obtain ⟨q, e, hq, hf⟩ := endW_mem.1 e
          obtain ⟨rfl, rfl⟩ := wyD_one e
          exact .inr ⟨hq, 0, p, 0, .nil, hq, hf, rfl⟩
        · rw [stpW_at hq] at e
          obtain ⟨q', hq', a, ha, hk⟩ := filS_mem.1 e
          obtain ⟨p', w', e1, e2, e3, e4⟩ := arc_right h ha
          simp only [bkK, e1, e2, Int.toNat_natCast, Prod.mk.injEq] at hk
          obtain ⟨rfl, hk⟩ := hk
          obtain ⟨rfl, rfl⟩ := wyD_one hk
          exact .inr ⟨hq', n + 1, p0, w' + d, Run.first ⟨a, ha, e1, by rw [e2, Int.toNat_natCast]⟩ hn, hp0, hf, by omega⟩
    rcases key q c hr with ⟨rfl, _⟩ | ⟨_, h1⟩
    · omega
    · exact h1
end Go.Proofs.Ytfpibdaedfilaaa.Pl
namespace Go.Proofs.Ytfpibdaedfilaaa.Dw
open Go.ChangeShapes Go.WideShapes Go.ChangeAt Go.RowKit
open Go.Proofs.Ytfpibdaedfilaaa.Pl Go.Proofs.Ytfpibdaedfilaaa.Wt
set_option linter.unusedVariables false
set_option linter.unusedSimpArgs false
theorem below_undrewD {B : Nat} {w w' : World} (h : Below B w.drew w') : Below B w w' := ⟨h.os, h.tape, h.output, h.size, h.block⟩
theorem arcs_of {l : List St} {j : Nat} (h : j < l.length) : (el l j).2.length ≤ arcN l := by
 have h1 := arcN_take h
 have h2 : arcN (l.take (j + 1)) ≤ arcN l := by
  conv => rhs; rw [← List.take_append_drop (j + 1) l, arcN_append]
  omega
 omega
set_option maxRecDepth 100000 in
set_option maxHeartbeats 1600000 in
theorem ends_any (z : Int) (vs : Value) (l : List St) (w : World) (h : Mach w (.agg #[.int .i64 z, vs]) (z, l)) (hr : faultM (z, l) = 0) :
  Calls Try.prog 47 #[.agg #[.int .i64 z, vs]] w fun e w' => ∃ v', e = .returned v' ∧ Row 2 encD w' v' (endW l l.length) ∧ Below w.heap.size w w' := by
 obtain ⟨i1, hi1, hy0, hy1, hy2⟩ := info_parts infoWay
 have h60 := (right_size hr).1
 have HFN : Hid (∀ q, q < l.length → (el l q).1 ≠ 1000000001 → ∃ f : Nat, (el l q).1 = (f : Int)) := fun q hq hf => by
  have h9 : 0 ≤ (el l q).1 ∧ (el l q).1 ≤ 1000000000 := fin_small (m := (z, l)) hr hq hf
  exact ⟨(el l q).1.toNat, by omega⟩
 obtain ⟨vs', hvs, hS⟩ := h
 simp only [Value.agg.injEq, Array.mk.injEq, List.cons.injEq, and_true, true_and] at hvs
 subst hvs
 obtain ⟨a, cap, rfl, hc⟩ := hS.get
 have HC : Hid (∀ j, j < l.length → ∃ b off va, a = some ⟨b, off, none⟩ ∧ b < w.heap.size ∧ w.cell? ⟨b, off + j * 2, none⟩ = some (.int .i64 (el l j).1) ∧ w.cell? ⟨b, off + j * 2 + 1, none⟩ = some va ∧ Arcs w va (el l j).2) := hc
 clear hS hc hr
 generalize hn : l.length = n at *
 have HN : Hid (l.length = n) := hn
 clear hn
 go_enter Try.func47, Try.ntmps47
 go_wp2
 go_loopw [3, 9] (fun s3 i wr => ∃ (q : Nat) (vo : Value), q ≤ n ∧ vo = s3 ∧ i = .int .i64 q ∧ Hid (wr.ownsRow w.heap.size 119 2 vo (endW l q).length ((endW l q).flatMap encD)) ∧ Hid (Below w.heap.size w wr)) (fun _ i _ => n - (intOf i).toNat)
 case atStart => exact ⟨0, _, Nat.zero_le _, rfl, rfl, World.ownsRow_nil _ _ _ _, (Below.refl _ _).alloc (Nat.le_refl _) _⟩
 case round =>
  obtain ⟨q, vo, hq, rfl, rfl, hown, hb⟩ := hrel
  by_cases hqn : q < n
  ·obtain ⟨b, off, va, rfl, hbl, g0, g1, gA⟩ := HC.out q hqn
   obtain ⟨a2, cap2, hva⟩ := gA.sl
   subst hva
   have g0 := (hb.out.cell (p := ⟨b, off + q * 2, none⟩) hbl).trans g0
   have g1 := (hb.out.cell (p := ⟨b, off + q * 2 + 1, none⟩) hbl).trans g1
   have HT := endW_succ l q
   have hkl := endW_le l q
   have HF := HFN.out q hqn
   clear gA
   generalize endW l q = ks at *
   generalize (el l q).2.length = L at *
   generalize (el l q).1 = f at *
   have hq0 : (0 : Int) ≤ (q : Int) := by omega
   have hq1 : (q : Int) < (n : Int) := by omega
   have HD : Hid ((wr.alloc (.cells #[.int .i64 f, .slice a2 L cap2] 56)).ownsRow w.heap.size 119 2 vo ks.length (ks.flatMap encD)) := hown.out.alloc _
   have HDB : Hid (Below w.heap.size w (wr.alloc (.cells #[.int .i64 f, .slice a2 L cap2] 56))) := hb.out.alloc hb.out.size _
   by_cases hf : f = 1000000001
   ·have HE : Hid (endW l (q + 1) = ks) := by show _ = _; rw [HT, if_neg (fun h => h hf), List.append_nil]
    subst hf
    clear HT HF
    go_wp2
    go_roundw
    case rel => exact ⟨q + 1, _, by omega, rfl, by go_num, by rw [HE.out]; exact HD, HDB⟩
    case measure => simp [intOf]; omega
   ·have HE : Hid (endW l (q + 1) = ks ++ [((q : Int), 0, 0, f)]) := by
     obtain ⟨g, hg⟩ := HF hf
     show _ = _
     rw [HT, if_pos hf, hg]
     rfl
    have hfb : (f != 1000000001) = true := by simpa using hf
    clear HT HF
    go_wp2_with (first
     | (at_builtin; refine wpList_append_rows encD_len (by decide) encD_one rfl _ _ 95 rfl w.heap.size 119 i1 _ 16 Try.underlying95 hi1 hy0 hy1 hy2 rfl _ ks.length (ks.flatMap encD) rfl (HD.out.alloc _) _ [((q : Int), 0, 0, f)] rfl (by have h9 := oneRow (enc := encD) (wr.alloc (.cells #[.int .i64 f, .slice a2 L cap2] 56)) ((q : Int), 0, 0, f) rfl 119; simp only [World.size_alloc] at h9; exact h9) (by simp; unfold maxLen; omega) (by simp; omega) (by have := HDB.out.size; simp at this ⊢; omega) ?_; intro v4 w4 ho4 hg4; obtain ⟨HO4, HB4, HZ4⟩ := snocFacts HD.out HDB.out.size ho4 hg4; clear ho4 hg4))
    go_roundw
    case rel => exact ⟨q + 1, _, by omega, rfl, by go_num, by rw [HE.out]; exact HO4, HDB.out.trans HB4.out⟩
    case measure => simp [intOf]; omega
  ·have hnl : ¬ (q : Int) < (n : Int) := by omega
   have HO : Hid (Row 2 encD wr vo (endW l n)) := by
    have h9 := hown.out
    rw [show q = n by omega] at h9
    exact Row.ofOwn encD_len h9 rfl
   go_wp2
   go_ret
   exact ⟨_, rfl, HO.out, hb.out⟩
end Go.Proofs.Ytfpibdaedfilaaa.Dw
namespace Go.Proofs.Ytfpibdaedfilaaa.Wt
open Go.ChangeShapes Go.WideShapes Go.ChangeAt Go.RowKit
open Go.Proofs.Ytfpibdaedfilaaa.Pl
set_option linter.unusedVariables false
set_option linter.unusedSimpArgs false
def encI1 (x : Int) : List Value := [.int .i64 x]
theorem encI1_len (x : Int) : (encI1 x).length = 1 := rfl
theorem encI1_one (x : Int) : ∀ u ∈ encI1 x, u.oneCell' = true := by
 intro u hu
 simp [encI1] at hu
 subst hu; rfl
def Nums (w : World) (v : Value) (ks : List Int) : Prop := Row 1 encI1 w v ks
theorem Nums.later {w w' : World} {v : Value} {ks : List Int} (h : Nums w v ks) {B : Nat} (hb : Below B w w') (hB : w.heap.size ≤ B) : Nums w' v ks := Row.later h hb hB
theorem Nums.get {w : World} {v : Value} {bs : List Int} (h : Nums w v bs) : ∃ a cap, v = .slice a bs.length cap ∧ ∀ j, j < bs.length → ∃ b off, a = some ⟨b, off, none⟩ ∧ b < w.heap.size ∧ w.cell? ⟨b, off + j, none⟩ = some (.int .i64 (el bs j)) := by
 by_cases hz : 0 < bs.length
 ·obtain ⟨b, off, cap, hv, hb, hc⟩ := Row.plain h (fun x => by simp [encI1]) hz
  refine ⟨_, cap, hv, fun j hj => ⟨b, off, rfl, hb, ?_⟩⟩
  have := hc j hj 0 _ rfl
  rwa [Nat.mul_one, Nat.add_zero] at this
 ·obtain ⟨a, cap, hv⟩ := Row.sl h
  exact ⟨a, cap, hv, fun j hj => by omega⟩
theorem infoIntU : (Try.prog.info? 3).map (fun i => (i.zero, i.size, i.bytes)) = some (some (.int .i64 0), 1, 8) := by kernel_rfl
theorem made_nums (n : Nat) : madeCells (Value.cells (.int .i64 0)) (n * 1) = ((List.replicate n (0 : Int)).map (Value.int .i64)).toArray := by
 have hz : Value.cells (.int .i64 0) = #[.int .i64 0] := rfl
 apply Array.ext_getElem?
 intro t
 simp only [madeCells, hz, Array.getElem?_map, List.map_replicate]
 by_cases ht : t < n
 ·simp [ht, Nat.mod_one]
 ·simp [ht]
theorem run_nums (n : Nat) (hn : n ≤ 1000) (W : World) : (Instr.makeSlice 34 (.int .i64 (n : Int)) (.int .i64 (n : Int))).run Try.prog W = .ok (.slice (some ⟨W.heap.size, 0, none⟩) n n) (W.alloc (.cells ((List.replicate n (0 : Int)).map (Value.int .i64)).toArray 3)) := by
 obtain ⟨i1, hi1, hy0, hy1, hy2⟩ := info_parts infoIntU
 have h := run_make (P := Try.prog) W 34 3 i1 _ Try.underlying34 hi1 hy0 .i64 .i64 n n (by omega) (by omega) (by rw [hy2]; omega) (by omega)
 rw [hy1, Int.toNat_natCast, made_nums] at h
 exact h
theorem nums_block {w : World} {g cap : Nat} {ws : List Int} {t : TypeId} (h : Blk w g (ws.map (Value.int .i64)).toArray t) : Nums w (.slice (some ⟨g, 0, none⟩) ws.length cap) ws := by
  refine .inr ⟨⟨g, 0, none⟩, cap, rfl, fun j hj i u hu => ?_⟩
  cases i with
  | zero =>
    rw [Addr.add_lit, Nat.zero_add, Nat.mul_one, Nat.add_zero]
    refine h.cell _ ?_
    simp [encI1] at hu
    subst hu
    simp [hj, el]
  | succ i => simp [encI1] at hu
theorem num_cell {w : World} {g : Nat} {ws : List Int} {t : TypeId} (h : Blk w g (ws.map (Value.int .i64)).toArray t) {j : Nat} (hj : j < ws.length) : w.cell? ⟨g, j, none⟩ = some (.int .i64 (el ws j)) := by
 refine h.cell _ ?_
 simp [hj, el]
theorem set_num {ws : List Int} {q : Nat} {x : Int} : (ws.map (Value.int .i64)).toArray.setIfInBounds q (.int .i64 x) = ((ws.set q x).map (Value.int .i64)).toArray := by simp [List.map_set]
theorem made_bools (n : Nat) : madeCells (Value.cells (.bool false)) (n * 1) = ((List.replicate n false).map Value.bool).toArray := by
 have hz : Value.cells (.bool false) = #[.bool false] := rfl
 apply Array.ext_getElem?
 intro t
 simp only [madeCells, hz, Array.getElem?_map, List.map_replicate]
 by_cases ht : t < n
 ·simp [ht, Nat.mod_one]
 ·simp [ht]
theorem set_bool {bs : List Bool} {q : Nat} : (bs.map Value.bool).toArray.setIfInBounds q (.bool true) = ((bs.set q true).map Value.bool).toArray := by simp [List.map_set]
theorem bool_cell {w : World} {g : Nat} {bs : List Bool} {t : TypeId} (h : Blk w g (bs.map Value.bool).toArray t) {j : Nat} (hj : j < bs.length) : w.cell? ⟨g, j, none⟩ = some (.bool (el bs j)) := by
 refine h.cell _ ?_
 simp [hj, el]
theorem infoBool : (Try.prog.info? 4).map (fun i => (i.zero, i.size, i.bytes)) = some (some (.bool false), 1, 1) := by kernel_rfl
end Go.Proofs.Ytfpibdaedfilaaa.Wt
namespace Go.Proofs.Ytfpibdaedfilaaa.Wt
open Go.ChangeShapes Go.WideShapes Go.ChangeAt Go.RowKit
open Go.Proofs.Ytfpibdaedfilaaa.Pl
set_option linter.unusedVariables false
def falses (w : World) (b : Nat) : Nat := match w.heap[b]? with
 | some (.cells cs _ _) => cs.toList.countP fun v => match v with | .bool false => true | _ => false
 | _ => 0
theorem falses_blk {w : World} {b : Nat} {bs : List Bool} {t : TypeId} (h : Blk w b (bs.map Value.bool).toArray t) : falses w b = bs.count false := by
 unfold Blk at h
 unfold falses
 rw [h]
 simp only
 rw [List.countP_map]
 unfold List.count
 refine List.countP_congr fun x _ => ?_
 cases x <;> simp
end Go.Proofs.Ytfpibdaedfilaaa.Wt
namespace Go.Proofs.Ytfpibdaedfilaaa.Dw
open Go.ChangeShapes Go.WideShapes Go.ChangeAt Go.RowKit
open Go.Proofs.Ytfpibdaedfilaaa.Pl Go.Proofs.Ytfpibdaedfilaaa.Wt
set_option linter.unusedVariables false
set_option linter.unusedSimpArgs false
structure WayTab (w : World) (base g n : Nat) (vs : List Value) (f : Nat → List Ar) : Prop where
 len : vs.length = n
 blk : Blk w g vs.toArray 95
 row : ∀ j, j < n → w.ownsRow base 119 2 (el vs j) (f j).length ((f j).flatMap encD)
 apart : ∀ i j, i < n → j < n → i ≠ j → (el vs i).ownBlock = none ∨ (el vs i).ownBlock ≠ (el vs j).ownBlock
theorem WayTab.later {w w' : World} {base g n : Nat} {vs : List Value} {f : Nat → List Ar} (h : WayTab w base g n vs f) (hb : Below w.heap.size w w') : WayTab w' base g n vs f :=
 ⟨h.len, h.blk.below hb h.blk.lt, fun j hj => ownBelow (h.row j hj) hb, h.apart⟩
theorem WayTab.cell {w : World} {base g n : Nat} {vs : List Value} {f : Nat → List Ar} (h : WayTab w base g n vs f) {j : Nat} (hj : j < n) : w.cell? ⟨g, j, none⟩ = some (el vs j) := by
 refine h.blk.cell _ ?_
 have := h.len
 rw [List.getElem?_toArray, el_get (by omega), List.getElem?_eq_getElem (by omega)]
theorem el_setV {l : List Value} {q j : Nat} (hq : q < l.length) (v : Value) : el (l.set q v) j = if j = q then v else el l j := by
 by_cases h : j = q
 ·subst h; rw [if_pos rfl, el_get (by simpa using hq)]; simp
 ·rw [if_neg h]; simp [el, List.getElem?_set_ne (Ne.symm h)]
theorem WayTab.put {w w' : World} {base g n t : Nat} {x : Ar} {vs : List Value} {f : Nat → List Ar} {v' : Value} (h : WayTab w base g n vs f) (ht : t < n) (ho : w'.ownsRow base 119 2 v' ((f t).length + 1) ((f t).flatMap encD ++ [x].flatMap encD)) (hg : w.grownBy w' (el vs t).ownBlock) (hn : Near w (el vs t).ownBlock v') :
  WayTab (w'.setCell ⟨g, t, none⟩ v') base g n (vs.set t v') (putW t x f) := by
 have hl := h.len
 have hb' : Blk w' g vs.toArray 95 := h.blk.grown hg (own_ne (h.row t ht) h.blk (by decide))
 have hother : ∀ j, j < n → j ≠ t → w'.ownsRow base 119 2 (el vs j) (f j).length ((f j).flatMap encD) := fun j hj hjt => (h.row j hj).kept hg (h.apart j t hj ht hjt)
 refine ⟨by simpa using hl, ?_, fun j hj => ?_, fun i j hi hj hij => ?_⟩
 ·have h9 := hb'.set t v'
  have e : vs.toArray.setIfInBounds t v' = (vs.set t v').toArray := by simp
  rw [e] at h9
  exact h9
 ·rw [el_setV (by omega)]
  unfold putW
  by_cases e : j = t
  ·subst e
   rw [if_pos rfl, if_pos rfl, List.flatMap_append, List.length_append]
   exact ho.kept (gSet w' g j v') (.inr (Ne.symm (own_ne ho hb' (by decide))))
  ·rw [if_neg e, if_neg e]
   exact (hother j hj e).kept (gSet w' g t v') (.inr (Ne.symm (own_ne (hother j hj e) hb' (by decide))))
 ·rw [el_setV (by omega), el_setV (by omega)]
  by_cases e1 : i = t
  ·have e2 : ¬ j = t := fun e2 => hij (e1.trans e2.symm)
   rw [if_pos e1, if_neg e2]
   rcases hn with hn | ⟨b, hn, hbn⟩
   ·rw [hn]; exact h.apart t j ht hj (by omega)
   ·right
    rw [hn]
    intro e9
    have := ((h.row j hj).lt b e9.symm).2
    omega
  ·rw [if_neg e1]
   by_cases e2 : j = t
   ·rw [if_pos e2]
    rcases hn with hn | ⟨b, hn, hbn⟩
    ·rw [hn]; exact h.apart i t hi ht e1
    ·right
     rw [hn]
     intro e9
     have := ((h.row i hi).lt b e9).2
     omega
   ·rw [if_neg e2]; exact h.apart i j hi hj hij
theorem infoRowW : (Try.prog.info? 95).map (fun i => (i.zero, i.size, i.bytes)) = some (some (.slice none 0 0), 1, 24) := by kernel_rfl
theorem made_rowsW (n : Nat) : madeCells (Value.cells (.slice none 0 0)) (n * 1) = (List.replicate n (Value.slice none 0 0)).toArray := by
 have hz : Value.cells (.slice none 0 0) = #[.slice none 0 0] := rfl
 apply Array.ext_getElem?
 intro t
 simp only [madeCells, hz]
 by_cases ht : t < n
 ·simp [ht, Nat.mod_one]
 ·simp [ht]
theorem run_rowsW (n : Nat) (hn : n ≤ 1000) (W : World) : (Instr.makeSlice 97 (.int .i64 (n : Int)) (.int .i64 (n : Int))).run Try.prog W = .ok (.slice (some ⟨W.heap.size, 0, none⟩) n n) (W.alloc (.cells (List.replicate n (Value.slice none 0 0)).toArray 95)) := by
 obtain ⟨i1, hi1, hy0, hy1, hy2⟩ := info_parts infoRowW
 have h := run_make (P := Try.prog) W 97 95 i1 _ Try.underlying97 hi1 hy0 .i64 .i64 n n (by omega) (by omega) (by rw [hy2]; omega) (by omega)
 rw [hy1, Int.toNat_natCast, made_rowsW] at h
 exact h
theorem WayTab.start {w : World} {base g n : Nat} (h : Blk w g (List.replicate n (Value.slice none 0 0)).toArray 95) : WayTab w base g n (List.replicate n (.slice none 0 0)) (fun _ => []) := by
 have he : ∀ j, j < n → el (List.replicate n (Value.slice none 0 0)) j = .slice none 0 0 := fun j hj => by simp [el, hj]
 refine ⟨by simp, h, fun j hj => ?_, fun i j hi hj _ => ?_⟩
 ·rw [he j hj]; exact World.ownsRow_nil _ _ _ _
 ·rw [he i hi]; exact .inl rfl
def HeldTw (B1 X t : Nat) (x2 x3 : Int) (v : Value) (w : World) : Prop := w.cell? ⟨X, 2, none⟩ = some (.int .i64 x2) ∧ w.cell? ⟨X, 3, none⟩ = some (.int .i64 x3) ∧ w.cell? ⟨B1, t, none⟩ = some v
end Go.Proofs.Ytfpibdaedfilaaa.Dw
