/- Composing: what Expand and Compose answer, as functions (no program in sight). -/
import Derived.Test.YtfhjncpakgailaaGreatDoorMal
import Derived.Test.YtfhjncpakgailaaGreatDoorMad
import Derived.Test.YtfhjncpakgailaaGreatDoorMaa
namespace Go.Proofs.YtfhjncpakgailaaGreatDoor.Pl
set_option linter.unusedVariables false
set_option linter.unusedSimpArgs false
def trB (a b : Mc) (t : Tr) : Bool := inB t.1 0 ((a.2.length : Int) - 1) && inB t.2.1 0 ((b.2.length : Int) - 1) && inB t.2.2 0 2
def finTr (a b : Mc) (t : Tr) : Int := bothI (el a.2 t.1.toNat).1 (el b.2 t.2.1.toNat).1
def expT (a b : Mc) (t : Tr) : List Hp := expL (el a.2 t.1.toNat).2 (el b.2 t.2.1.toNat).2 t
def expO (a b : Mc) (t : Tr) : Bool := ((el a.2 t.1.toNat).1 != 1000000001 && (el b.2 t.2.1.toNat).1 != 1000000001 && decide (1000000000 < (el a.2 t.1.toNat).1 + (el b.2 t.2.1.toNat).1)) || (expT a b t).any (fun h => decide (1000000000 < h.2.2.1))
def expE (a b : Mc) (t : Tr) : Int := if faultM a ≠ 0 then faultM a else if faultM b ≠ 0 then faultM b else if trB a b t = false then 13 else if expO a b t = true then 4 else 0
def arcTr (L : List Tr) (h : Hp) : Ar := (h.1, h.2.1, h.2.2.1, (L.idxOf h.2.2.2 : Int))
structure CmpI (a b : Mc) (q : Nat) (L : List Tr) (S : List St) : Prop where
 nodup : L.Nodup
 le : q ≤ L.length
 len : S.length = q
 start : ∃ E, L = (a.1, b.1, 0) :: E
 right : ∀ i, i < q → expE a b (el L i) = 0
 shut : ∀ i, i < q → ∀ h ∈ expT a b (el L i), h.2.2.2 ∈ L
 sts : ∀ i, i < q → el S i = (finTr a b (el L i), (expT a b (el L i)).map (arcTr L))
theorem fin_small {m : Mc} (hf : faultM m = 0) {p : Nat} (hp : p < m.2.length) (hn : (el m.2 p).1 ≠ 1000000001) : 0 ≤ (el m.2 p).1 ∧ (el m.2 p).1 ≤ 1000000000 := by
 have h1 := stB_fin ((right_parts hf).2 _ (el_mem hp))
 simp [finB, inB] at h1
 omega
def DstAns (m : Mc) (P : Nat → Nat → Prop) (vs : List Int) (ec : Int) : Prop := (faultM m ≠ 0 ∧ vs = [] ∧ ec = faultM m) ∨ (faultM m = 0 ∧ LstAns P m.2.length vs ec)
theorem DstAns.len {m : Mc} {P : Nat → Nat → Prop} {vs : List Int} (h : DstAns m P vs 0) : vs.length = m.2.length ∧ -1 ≤ m.1 ∧ m.1 ≤ (m.2.length : Int) - 1 := by
 rcases h with ⟨h0, h1, h2⟩ | ⟨h0, h1⟩
 ·exact absurd h2.symm h0
 ·rcases h1 with ⟨_, h2, _⟩ | ⟨h2, _⟩
  ·exact ⟨h2, (right_parts h0).1⟩
  ·exact absurd h2 (by decide)
end Go.Proofs.YtfhjncpakgailaaGreatDoor.Pl
namespace Go.Proofs.YtfhjncpakgailaaGreatDoor.Pl
def placeL' (x : Int) : Nat → List Int → Int
 | _, [] => -1
 | i, k :: l => if k = x then (i : Int) else placeL' x (i + 1) l
def placeI (ks : List Int) (x : Int) : Int := placeL' x 0 ks
theorem placeL'_at {x : Int} {ks : List Int} {i k : Nat} (hk : k < ks.length) (h : ∀ j, j < k → el ks j ≠ x) (e : el ks k = x) : placeL' x i ks = ((i + k : Nat) : Int) := by
  induction ks generalizing i k with
  | nil => simp at hk
  | cons y l ih =>
    cases k with
    | zero => rw [el_zero] at e; simp [placeL', e]
    | succ k =>
      have h0 := h 0 (by omega)
      rw [el_zero] at h0
      rw [placeL', if_neg h0, ih (k := k) (by simpa using hk) (fun j hj => by have := h (j + 1) (by omega); rwa [el_succ] at this) (by rwa [el_succ] at e)]
      congr 1; omega
theorem placeL'_none {x : Int} {ks : List Int} {i : Nat} (h : ∀ j, j < ks.length → el ks j ≠ x) : placeL' x i ks = -1 := by
  induction ks generalizing i with
  | nil => rfl
  | cons y l ih =>
    have h0 := h 0 (by simp)
    rw [el_zero] at h0
    rw [placeL', if_neg h0]
    exact ih (fun j hj => by have := h (j + 1) (by simpa using hj); rwa [el_succ] at this)
theorem placeI_at {x : Int} {ks : List Int} {k : Nat} (hk : k < ks.length) (h : ∀ j, j < k → el ks j ≠ x) (e : el ks k = x) : placeI ks x = (k : Int) := by
 have := placeL'_at (i := 0) hk h e
 rwa [Nat.zero_add] at this
theorem placeI_none {x : Int} {ks : List Int} (h : ∀ j, j < ks.length → el ks j ≠ x) : placeI ks x = -1 := placeL'_none h
def keptL (a b : List Bool) (n : Nat) : List Int := ((List.range n).filter fun q => el a q && el b q).map fun q : Nat => (q : Int)
theorem keptL_succ (a b : List Bool) (n : Nat) : keptL a b (n + 1) = keptL a b n ++ (if (el a n && el b n) = true then [(n : Int)] else []) := by
 unfold keptL
 rw [List.range_succ, List.filter_append, List.map_append]
 cases h : (el a n && el b n) <;> simp [h]
theorem keptL_le (a b : List Bool) (n : Nat) : (keptL a b n).length ≤ n := by
 unfold keptL
 rw [List.length_map]
 exact Nat.le_trans (List.length_filter_le _ _) (by simp)
theorem keptL_mem {a b : List Bool} {n : Nat} {x : Int} (h : x ∈ keptL a b n) : ∃ q : Nat, x = (q : Int) ∧ q < n ∧ el a q = true ∧ el b q = true := by
 unfold keptL at h
 simp only [List.mem_map, List.mem_filter, List.mem_range, Bool.and_eq_true] at h
 obtain ⟨q, ⟨h1, h2, h3⟩, rfl⟩ := h
 exact ⟨q, rfl, h1, h2, h3⟩
def turnA (ks : List Int) (c : Ar) : Ar := (c.1, c.2.1, c.2.2.1, placeI ks c.2.2.2)
def trimA (ks : List Int) (l : List Ar) : List Ar := (l.map (turnA ks)).filter fun c => decide (0 ≤ c.2.2.2)
theorem trimA_take {ks : List Int} {l : List Ar} {k : Nat} (h : k < l.length) : trimA ks (l.take (k + 1)) = trimA ks (l.take k) ++ (if 0 ≤ placeI ks (el l k).2.2.2 then [turnA ks (el l k)] else []) := by
 unfold trimA
 rw [take_el h, List.map_append, List.filter_append]
 congr 1
 by_cases e : 0 ≤ placeI ks (el l k).2.2.2 <;> simp [e, turnA]
theorem trimA_le (ks : List Int) (l : List Ar) : (trimA ks l).length ≤ l.length := by
 unfold trimA
 exact Nat.le_trans (List.length_filter_le _ _) (by simp)
def trimS (l : List St) (ks : List Int) (x : Int) : St := ((el l x.toNat).1, trimA ks (el l x.toNat).2)
def trimM (z : Int) (l : List St) (ks : List Int) : Mc := (placeI ks z, ks.map (trimS l ks))
def AheadC (z : Int) (l : List St) (T : Nat → Prop) : Prop := (∀ q, q < l.length → (q : Int) = z → T q) ∧ ∀ q, q < l.length → T q → ∀ a ∈ (el l q).2, T a.2.2.2.toNat
def BackC (l : List St) (T : Nat → Prop) : Prop := (∀ q, q < l.length → (el l q).1 ≠ 1000000001 → T q) ∧ ∀ q, q < l.length → ∀ a ∈ (el l q).2, T a.2.2.2.toNat → T q
def Least (C : (Nat → Prop) → Prop) (n : Nat) (bs : List Bool) : Prop := bs.length = n ∧ C (fun q => el bs q = true) ∧ ∀ T, C T → ∀ q, q < n → el bs q = true → T q
theorem Least.one {C : (Nat → Prop) → Prop} {n : Nat} {a b : List Bool} (ha : Least C n a) (hb : Least C n b) : a = b := by
 apply el_ext (by rw [ha.1, hb.1])
 intro j hj
 have hj' : j < n := by rw [ha.1] at hj; exact hj
 have h1 := ha.2.2 _ hb.2.1 j hj'
 have h2 := hb.2.2 _ ha.2.1 j hj'
 rw [Bool.eq_iff_iff]
 exact ⟨h1, h2⟩
def leL (a b : List Bool) : Prop := a.length = b.length ∧ ∀ j, j < a.length → el a j = true → el b j = true
theorem el_setB {l : List Bool} {q j : Nat} (hq : q < l.length) : el (l.set q true) j = if j = q then true else el l j := by
 by_cases h : j = q
 ·subst h; rw [if_pos rfl, el_get (by simpa using hq)]; simp
 ·rw [if_neg h]; simp [el, List.getElem?_set_ne (Ne.symm h)]
structure Pass (C : (Nat → Prop) → Prop) (n : Nat) (b0 bs : List Bool) (chk : Prop) : Prop where
 len : bs.length = n
 le : leL b0 bs
 sound : ∀ T, C T → ∀ q, q < n → el bs q = true → T q
 chk : bs = b0 → chk
structure Rounds (C : (Nat → Prop) → Prop) (n k : Nat) (bs : List Bool) : Prop where
 len : bs.length = n
 sound : ∀ T, C T → ∀ q, q < n → el bs q = true → T q
 more : C (fun q => el bs q = true) ∨ k ≤ bs.count true
theorem el_false {n j : Nat} : el (List.replicate n false) j = false := by
 unfold el
 rw [List.getElem?_replicate]
 split <;> rfl
end Go.Proofs.YtfhjncpakgailaaGreatDoor.Pl
namespace Go.Proofs.YtfhjncpakgailaaGreatDoor.Pl
set_option linter.unusedVariables false
set_option linter.unusedSimpArgs false
def pshA (vs : List Int) (q : Nat) (a : Ar) : Ar := (a.1, a.2.1, a.2.2.1 + el vs a.2.2.2.toNat - el vs q, a.2.2.2)
def pshF (vs : List Int) (q : Nat) (f : Int) : Int := if f = 1000000001 then 1000000001 else f - el vs q
def pshS (vs : List Int) (l : List St) (q : Nat) : St := (pshF vs q (el l q).1, (el l q).2.map (pshA vs q))
def pshL (vs : List Int) (l : List St) : List St := (List.range l.length).map (pshS vs l)
def pshM (vs : List Int) (m : Mc) : Mc := (m.1, pshL vs m.2)
def pshT (vs : List Int) (m : Mc) : Int := if m.1 < 0 then 0 else el vs m.1.toNat
def pshO (vs : List Int) (l : List St) : Bool := (List.range l.length).any fun q => (el l q).2.any fun a => decide (1000000000 < (pshA vs q a).2.2.1)
theorem psh_length (vs : List Int) (l : List St) : (pshL vs l).length = l.length := by simp [pshL]
theorem psh_el {vs : List Int} {l : List St} {q : Nat} (h : q < l.length) : el (pshL vs l) q = pshS vs l q := el_range_map _ h
def trmM (m : Mc) (aa bs : List Bool) : Mc := trimM m.1 m.2 (keptL aa bs m.2.length)
def PshAns (m x : Mc) (tot ec : Int) : Prop :=
 (faultM m ≠ 0 ∧ x = (0, []) ∧ tot = 0 ∧ ec = faultM m) ∨
 (faultM m = 0 ∧ ∃ aa bs vs e, Least (AheadC m.1 m.2) m.2.length aa ∧ Least (BackC m.2) m.2.length bs ∧ DstAns (trmM m aa bs) (EndC (trmM m aa bs).2) vs e ∧
  ((e ≠ 0 ∧ x = (0, []) ∧ tot = 0 ∧ ec = e) ∨ (e = 0 ∧ pshO vs (trmM m aa bs).2 = true ∧ x = (0, []) ∧ tot = 0 ∧ ec = 4) ∨
   (e = 0 ∧ pshO vs (trmM m aa bs).2 = false ∧ x = pshM vs (trmM m aa bs) ∧ tot = pshT vs (trmM m aa bs) ∧ ec = 0)))
structure Pot (l : List St) (vs : List Int) : Prop where
 len : vs.length = l.length
 nn : ∀ q, q < l.length → 0 ≤ el vs q ∧ el vs q ≤ 1000000000
 arc : ∀ q, q < l.length → ∀ a ∈ (el l q).2, ∃ t : Nat, a.2.2.2 = (t : Int) ∧ t < l.length ∧ 0 ≤ a.2.2.1 ∧ el vs q ≤ a.2.2.1 + el vs t
 fin : ∀ q, q < l.length → (el l q).1 ≠ 1000000001 → el vs q ≤ (el l q).1 ∧ (el l q).1 ≤ 1000000000
theorem Pot.way {l : List St} {vs : List Int} (h : Pot l vs) {q p c : Nat} {u v : List Int} (hq : q < l.length) (hw : Way l q u v p c) :
    p < l.length ∧ ∃ c' : Nat, Way (pshL vs l) q u v p c' ∧ (c' : Int) + el vs q = (c : Int) + el vs p := by
  induction hw with
  | nil => exact ⟨hq, 0, .nil, by omega⟩
  | snoc hw ha ht ih =>
    rename_i u v p c a t
    obtain ⟨hp, c', h1, h2⟩ := ih
    obtain ⟨t', e1, e2, e3, e4⟩ := h.arc p hp a ha
    have : t = t' := by omega
    subst this
    have hm : pshA vs p a ∈ (el (pshL vs l) p).2 := by
      rw [psh_el hp]
      exact List.mem_map_of_mem ha
    have h3 := h1.snoc hm (t := t) ht
    refine ⟨e2, _, h3, ?_⟩
    have e5 : (pshA vs p a).2.2.1 = a.2.2.1 + el vs t - el vs p := by simp only [pshA]; rw [ht, Int.toNat_natCast]
    rw [e5]
    omega
theorem Pot.back {l : List St} {vs : List Int} (h : Pot l vs) {q p c' : Nat} {u v : List Int} (hq : q < l.length) (hw : Way (pshL vs l) q u v p c') :
    p < l.length ∧ ∃ c : Nat, Way l q u v p c ∧ (c' : Int) + el vs q = (c : Int) + el vs p := by
  induction hw with
  | nil => exact ⟨hq, 0, .nil, by omega⟩
  | snoc hw ha ht ih =>
    rename_i u v p c a t
    obtain ⟨hp, c', h1, h2⟩ := ih
    rw [psh_el hp] at ha
    obtain ⟨b, hb, rfl⟩ := List.mem_map.1 ha
    obtain ⟨t', e1, e2, e3, e4⟩ := h.arc p hp b hb
    have ht' : b.2.2.2 = (t : Int) := ht
    have : t = t' := by omega
    subst this
    have h3 := h1.snoc hb (t := t) ht'
    refine ⟨e2, _, h3, ?_⟩
    have e5 : (pshA vs p b).2.2.1 = b.2.2.1 + el vs t - el vs p := by simp only [pshA]; rw [ht', Int.toNat_natCast]
    rw [e5]
    omega
theorem Pot.costs {z : Nat} {l : List St} {vs : List Int} (h : Pot l vs) (hz : z < l.length) (x y : List Int) (c : Nat) : Costs (pshM vs ((z : Int), l)) x y c ↔ ∃ d, Costs ((z : Int), l) x y d ∧ (d : Int) = (c : Int) + el vs z := by
 have hl : (pshM vs ((z : Int), l)).2.length = l.length := psh_length vs l
 constructor
 ·rintro ⟨h0, p, d, hw, hp, hf, rfl⟩
  rw [hl] at hp
  have hw' : Way (pshL vs l) z x y p d := by simpa [pshM] using hw
  obtain ⟨_, c, h1, h2⟩ := h.back hz hw'
  have e1 : (el (pshM vs ((z : Int), l)).2 p).1 = pshF vs p (el l p).1 := by simp only [pshM]; rw [psh_el hp]; rfl
  have hf' : (el l p).1 ≠ 1000000001 := fun e => hf (by rw [e1, e]; rfl)
  obtain ⟨f1, f2⟩ := h.fin p hp hf'
  have f3 := (h.nn p hp).1
  refine ⟨c + (el l p).1.toNat, ⟨by simp, p, c, by simpa using h1, hp, hf', rfl⟩, ?_⟩
  rw [e1]
  simp only [pshF, if_neg hf']
  omega
 ·rintro ⟨d, ⟨h0, p, c0, hw, hp, hf, rfl⟩, e⟩
  have hw' : Way l z x y p c0 := by simpa using hw
  obtain ⟨_, c', h1, h2⟩ := h.way hz hw'
  have e1 : (el (pshM vs ((z : Int), l)).2 p).1 = pshF vs p (el l p).1 := by simp only [pshM]; rw [psh_el hp]; rfl
  obtain ⟨f1, f2⟩ := h.fin p hp hf
  have f3 := (h.nn p hp).1
  have f4 := (h.nn p hp).2
  refine ⟨by simp [pshM], p, c', by simpa [pshM] using h1, by rw [hl]; exact hp, ?_, ?_⟩
  ·rw [e1]
   simp only [pshF, if_neg hf]
   intro e3
   omega
  ·rw [e1]
   simp only [pshF, if_neg hf]
   have : (el l p).1 ≠ 1000000001 := hf
   simp only at e
   omega
end Go.Proofs.YtfhjncpakgailaaGreatDoor.Pl
namespace Go.Proofs.YtfhjncpakgailaaGreatDoor.Pl
theorem keptL_sorted (a b : List Bool) (n : Nat) : (keptL a b n).Pairwise (· < ·) := by
 unfold keptL
 rw [List.pairwise_map]
 refine (List.Pairwise.filter _ (List.pairwise_lt_range (n := n))).imp ?_
 intro x y h
 omega
theorem keptL_iff {a b : List Bool} {n q : Nat} : (q : Int) ∈ keptL a b n ↔ q < n ∧ el a q = true ∧ el b q = true := by
 constructor
 ·intro h
  obtain ⟨p, h1, h2, h3, h4⟩ := keptL_mem h
  obtain rfl : q = p := by omega
  exact ⟨h2, h3, h4⟩
 ·rintro ⟨h1, h2, h3⟩
  unfold keptL
  simp only [List.mem_map, List.mem_filter, List.mem_range, Bool.and_eq_true]
  exact ⟨q, ⟨h1, h2, h3⟩, rfl⟩
theorem placeI_el {ks : List Int} (hp : ks.Pairwise (· < ·)) {i : Nat} (hi : i < ks.length) : placeI ks (el ks i) = (i : Int) := by
 refine placeI_at hi (fun j hj => ?_) rfl
 have := List.pairwise_iff_getElem.1 hp j i (by omega) hi hj
 rw [el_get hi, el_get (by omega)]
 omega
theorem placeI_mem {ks : List Int} (hp : ks.Pairwise (· < ·)) {x : Int} (h : x ∈ ks) : ∃ i : Nat, i < ks.length ∧ el ks i = x ∧ placeI ks x = (i : Int) := by
 obtain ⟨i, hi, rfl⟩ := mem_el h
 exact ⟨i, hi, rfl, placeI_el hp hi⟩
theorem placeI_not {ks : List Int} {x : Int} (h : x ∉ ks) : placeI ks x = -1 := placeI_none (fun _ hj e => h (e ▸ el_mem hj))
theorem placeI_nonneg {ks : List Int} (hp : ks.Pairwise (· < ·)) {x : Int} : 0 ≤ placeI ks x ↔ x ∈ ks := by
 constructor
 ·intro h
  by_cases e : x ∈ ks
  ·exact e
  ·rw [placeI_not e] at h; omega
 ·intro h
  obtain ⟨i, _, _, e⟩ := placeI_mem hp h
  rw [e]; omega
section
variable {z : Int} {l : List St} {aa bs : List Bool}
theorem trim_el {ks : List Int} {i : Nat} (hi : i < ks.length) : el (ks.map (trimS l ks)) i = ((el l (el ks i).toNat).1, trimA ks (el l (el ks i).toNat).2) := by
 rw [el_map hi]; rfl
theorem trimA_mem {ks : List Int} {ar : List Ar} {c : Ar} (h : c ∈ trimA ks ar) : ∃ d ∈ ar, c = turnA ks d ∧ 0 ≤ placeI ks d.2.2.2 := by
 unfold trimA at h
 simp only [List.mem_filter, List.mem_map, decide_eq_true_eq] at h
 obtain ⟨⟨d, hd, rfl⟩, h0⟩ := h
 exact ⟨d, hd, rfl, h0⟩
theorem trimA_in {ks : List Int} {ar : List Ar} {d : Ar} (hd : d ∈ ar) (h0 : 0 ≤ placeI ks d.2.2.2) : turnA ks d ∈ trimA ks ar := by
 unfold trimA
 simp only [List.mem_filter, List.mem_map, decide_eq_true_eq]
 exact ⟨⟨d, hd, rfl⟩, h0⟩
theorem el_true {n j : Nat} : el (List.replicate n true) j = true ↔ j < n := by
 unfold el
 rw [List.getElem?_replicate]
 split
 ·rename_i h; simp [h]
 ·rename_i h; simp [h]
theorem to_right (hf : faultM (z, l) = 0) {q : Nat} (hq : q < l.length) {d : Ar} (hd : d ∈ (el l q).2) : ∃ t : Nat, d.2.2.2 = (t : Int) ∧ t < l.length := by
 have h := List.all_eq_true.1 (right_st hf hq).2 d hd
 simp only [arcB, inB, Bool.and_eq_true, decide_eq_true_eq] at h
 exact ⟨d.2.2.2.toNat, by omega, by omega⟩
theorem trim_ahead (hf : faultM (z, l) = 0) (hA : Least (AheadC z l) l.length aa) (hB : Least (BackC l) l.length bs) (T : Nat → Prop) (hT : AheadC (placeI (keptL aa bs l.length) z) ((keptL aa bs l.length).map (trimS l (keptL aa bs l.length))) T) :
  ∀ i, i < (keptL aa bs l.length).length → T i := by
 have hp := keptL_sorted aa bs l.length
 have hk : ∀ q, q < l.length → el aa q = true → el bs q = true → ∃ i : Nat, i < (keptL aa bs l.length).length ∧ el (keptL aa bs l.length) i = (q : Int) ∧ placeI (keptL aa bs l.length) (q : Int) = (i : Int) := fun q hq h1 h2 => placeI_mem hp (keptL_iff.2 ⟨hq, h1, h2⟩)
 have key : ∀ q, q < l.length → el aa q = true → (el aa q = true ∧ (el bs q = true → T (placeI (keptL aa bs l.length) (q : Int)).toNat)) := by
  refine hA.2.2 (fun q => el aa q = true ∧ (el bs q = true → T (placeI (keptL aa bs l.length) (q : Int)).toNat)) ⟨?_, ?_⟩
  ·intro q hq hz
   have h1 := hA.2.1.1 q hq hz
   refine ⟨h1, fun h2 => ?_⟩
   obtain ⟨i, hi, _, e⟩ := hk q hq h1 h2
   rw [e]
   refine hT.1 _ (by simpa using hi) ?_
   rw [← hz, e]; simp
  ·intro q hq h9 d hd
   obtain ⟨t, ht, htn⟩ := to_right hf hq hd
   have h1 := hA.2.1.2 q hq h9.1 d hd
   rw [ht] at h1 ⊢
   simp only [Int.toNat_natCast] at h1 ⊢
   refine ⟨h1, fun h2 => ?_⟩
   have hbq : el bs q = true := hB.2.1.2 q hq d hd (by rw [ht]; simpa using h2)
   obtain ⟨i, hi, hei, e⟩ := hk q hq h9.1 hbq
   obtain ⟨j, hj, hej, e2⟩ := hk t htn h1 h2
   have h3 := h9.2 hbq
   rw [e] at h3
   have h4 := hT.2 i (by simpa using hi) (by simpa using h3) (turnA (keptL aa bs l.length) d) (by
    rw [trim_el hi, hei]
    simp only [Int.toNat_natCast]
    exact trimA_in hd (by rw [ht, e2]; omega))
   simp only [turnA] at h4
   rw [ht] at h4
   exact h4
 intro i hi
 obtain ⟨q, hq, hqn, h1, h2⟩ := keptL_mem (el_mem hi)
 have h3 := (key q hqn h1).2 h2
 rw [← hq, placeI_el hp hi] at h3
 simpa using h3
end
section
variable {z : Int} {l : List St} {aa bs : List Bool}
theorem trim_back (hf : faultM (z, l) = 0) (hA : Least (AheadC z l) l.length aa) (hB : Least (BackC l) l.length bs) (T : Nat → Prop) (hT : BackC ((keptL aa bs l.length).map (trimS l (keptL aa bs l.length))) T) :
  ∀ i, i < (keptL aa bs l.length).length → T i := by
 have hp := keptL_sorted aa bs l.length
 have hk : ∀ q, q < l.length → el aa q = true → el bs q = true → ∃ i : Nat, i < (keptL aa bs l.length).length ∧ el (keptL aa bs l.length) i = (q : Int) ∧ placeI (keptL aa bs l.length) (q : Int) = (i : Int) := fun q hq h1 h2 => placeI_mem hp (keptL_iff.2 ⟨hq, h1, h2⟩)
 have key : ∀ q, q < l.length → el bs q = true → (el bs q = true ∧ (el aa q = true → T (placeI (keptL aa bs l.length) (q : Int)).toNat)) := by
  refine hB.2.2 (fun q => el bs q = true ∧ (el aa q = true → T (placeI (keptL aa bs l.length) (q : Int)).toNat)) ⟨?_, ?_⟩
  ·intro q hq hz
   have h1 := hB.2.1.1 q hq hz
   refine ⟨h1, fun h2 => ?_⟩
   obtain ⟨i, hi, hei, e⟩ := hk q hq h2 h1
   rw [e]
   refine hT.1 _ (by simpa using hi) ?_
   rw [Int.toNat_natCast, trim_el hi, hei]
   simpa using hz
  ·intro q hq d hd h9
   obtain ⟨t, ht, htn⟩ := to_right hf hq hd
   rw [ht] at h9
   simp only [Int.toNat_natCast] at h9
   have h1 : el bs q = true := hB.2.1.2 q hq d hd (by rw [ht]; simpa using h9.1)
   refine ⟨h1, fun h2 => ?_⟩
   have h3 : el aa t = true := by have := hA.2.1.2 q hq h2 d hd; rw [ht] at this; simpa using this
   obtain ⟨i, hi, hei, e⟩ := hk q hq h2 h1
   obtain ⟨j, hj, hej, e2⟩ := hk t htn h3 h9.1
   have h4 := h9.2 h3
   rw [e2] at h4
   rw [e]
   refine hT.2 i (by simpa using hi) (turnA (keptL aa bs l.length) d) (by
    rw [trim_el hi, hei]
    simp only [Int.toNat_natCast]
    exact trimA_in hd (by rw [ht, e2]; omega)) ?_
   simp only [turnA]
   rw [ht, e2]
   exact h4
 intro i hi
 obtain ⟨q, hq, hqn, h1, h2⟩ := keptL_mem (el_mem hi)
 have h3 := (key q hqn h2).2 h1
 rw [← hq, placeI_el hp hi] at h3
 simpa using h3
theorem arcN_cons (s : St) (l : List St) : arcN (s :: l) = s.2.length + arcN l := rfl
theorem trim_arcs (ks : List Int) (n : Nat) (hn : n ≤ l.length) : arcN ((keptL aa bs n).map (trimS l ks)) ≤ arcN (l.take n) := by
  induction n with
  | zero => simp [keptL, arcN]
  | succ n ih =>
    rw [keptL_succ, List.map_append, arcN_append, arcN_take (by omega)]
    have := ih (by omega)
    split
    · have h9 := trimA_le ks (el l n).2
      simp only [List.map_cons, List.map_nil, arcN_cons, arcN, trimS, Int.toNat_natCast]
      omega
    · simp only [List.map_nil, arcN]
      omega
theorem trim_fault (hf : faultM (z, l) = 0) : faultM (trimM z l (keptL aa bs l.length)) = 0 := by
 have hp := keptL_sorted aa bs l.length
 have hle := keptL_le aa bs l.length
 have hsz := right_size hf
 have har := trim_arcs (l := l) (aa := aa) (bs := bs) (keptL aa bs l.length) l.length (Nat.le_refl _)
 rw [List.take_length] at har
 have hpl : ∀ x, -1 ≤ placeI (keptL aa bs l.length) x ∧ placeI (keptL aa bs l.length) x ≤ ((keptL aa bs l.length).length : Int) - 1 := fun x => by
  by_cases e : x ∈ keptL aa bs l.length
  ·obtain ⟨i, hi, _, h⟩ := placeI_mem hp e
   rw [h]; omega
  ·rw [placeI_not e]; omega
 refine faultM_ok ?_ ?_
 ·simp only [sizeB, trimM, Bool.and_eq_true, List.length_map]
  exact ⟨decide_eq_true (by omega), decide_eq_true (by omega)⟩
 ·simp only [rangeB, trimM, Bool.and_eq_true, List.length_map, List.all_eq_true]
  refine ⟨by simp only [inB, Bool.and_eq_true, decide_eq_true_eq]; exact hpl z, fun s hs => ?_⟩
  obtain ⟨x, hx, rfl⟩ := List.mem_map.1 hs
  obtain ⟨q, rfl, hq, _, _⟩ := keptL_mem hx
  have h1 := right_st hf hq
  simp only [stB, trimS, Bool.and_eq_true, List.all_eq_true, Int.toNat_natCast]
  refine ⟨h1.1, fun c hc => ?_⟩
  obtain ⟨d, hd, rfl, h0⟩ := trimA_mem hc
  have h2 := List.all_eq_true.1 h1.2 d hd
  have h3 := hpl d.2.2.2
  simp only [arcB, inB, Bool.and_eq_true, decide_eq_true_eq] at h2
  simp only [arcB, turnA, inB, Bool.and_eq_true]
  exact ⟨⟨⟨⟨decide_eq_true (by omega), decide_eq_true (by omega)⟩, ⟨decide_eq_true (by omega), decide_eq_true (by omega)⟩⟩, ⟨decide_eq_true (by omega), decide_eq_true (by omega)⟩⟩, ⟨decide_eq_true h0, decide_eq_true h3.2⟩⟩
theorem trim_ok (hm : okM (z, l)) : okM (trimM z l (keptL aa bs l.length)) := by
 have hle := keptL_le aa bs l.length
 have h1 := hm.1
 have h2 := hm.2
 refine ⟨by simp only [trimM, List.length_map] at h1 ⊢; omega, fun j hj => ?_⟩
 simp only [trimM, List.length_map] at hj ⊢
 rw [trim_el hj]
 obtain ⟨q, e, hq, _, _⟩ := keptL_mem (el_mem hj)
 rw [e]
 have := trimA_le (keptL aa bs l.length) (el l q).2
 have := h2 q hq
 simp only [Int.toNat_natCast] at this ⊢
 omega
theorem all_least {C : (Nat → Prop) → Prop} {n : Nat} (hC : C (fun q => q < n)) (h : ∀ T, C T → ∀ i, i < n → T i) : Least C n (List.replicate n true) :=
 ⟨by simp, by
  have : (fun q => el (List.replicate n true) q = true) = fun q => q < n := by funext q; rw [el_true]
  rw [this]; exact hC, fun T hT q hq _ => h T hT q hq⟩
theorem trim_to (hf : faultM (z, l) = 0) {i : Nat} (hi : i < (keptL aa bs l.length).length) {c : Ar} (hc : c ∈ (el ((keptL aa bs l.length).map (trimS l (keptL aa bs l.length))) i).2) : ∃ t : Nat, c.2.2.2 = (t : Int) ∧ t < (keptL aa bs l.length).length := by
 have h := to_right (trim_fault (aa := aa) (bs := bs) hf) (q := i) (by simpa [trimM] using hi) (d := c) (by simpa [trimM] using hc)
 simpa using h
theorem trim_all_ahead (hf : faultM (z, l) = 0) (hA : Least (AheadC z l) l.length aa) (hB : Least (BackC l) l.length bs) :
  Least (AheadC (placeI (keptL aa bs l.length) z) ((keptL aa bs l.length).map (trimS l (keptL aa bs l.length)))) (keptL aa bs l.length).length (List.replicate (keptL aa bs l.length).length true) := by
 refine all_least ⟨fun q hq _ => by simpa using hq, fun q hq h c hc => ?_⟩ (trim_ahead hf hA hB)
 obtain ⟨t, h1, h2⟩ := trim_to hf (by simpa using hq) hc
 rw [h1]; simpa using h2
theorem trim_all_back (hf : faultM (z, l) = 0) (hA : Least (AheadC z l) l.length aa) (hB : Least (BackC l) l.length bs) :
  Least (BackC ((keptL aa bs l.length).map (trimS l (keptL aa bs l.length)))) (keptL aa bs l.length).length (List.replicate (keptL aa bs l.length).length true) := by
 refine all_least ⟨fun q hq _ => by simpa using hq, fun q hq c hc _ => by simpa using hq⟩ (trim_back hf hA hB)
theorem kept_all (n : Nat) : keptL (List.replicate n true) (List.replicate n true) n = (List.range n).map fun q : Nat => (q : Int) := by
 unfold keptL
 congr 1
 rw [List.filter_eq_self]
 intro q hq
 have := el_true.2 (List.mem_range.1 hq)
 simp [this]
theorem place_all {n : Nat} {x : Int} (h1 : -1 ≤ x) (h2 : x < n) : placeI ((List.range n).map fun q : Nat => (q : Int)) x = x := by
 have hp : ((List.range n).map fun q : Nat => (q : Int)).Pairwise (· < ·) := by
  have := keptL_sorted (List.replicate n true) (List.replicate n true) n
  rwa [kept_all] at this
 by_cases e : 0 ≤ x
 ·have h3 : x.toNat < n := by omega
  have := placeI_el hp (i := x.toNat) (by simpa using h3)
  rw [el_range_map (fun q : Nat => (q : Int)) h3] at this
  rw [show ((x.toNat : Nat) : Int) = x by omega] at this
  exact this
 ·rw [placeI_not (by intro h; obtain ⟨q, _, h9⟩ := List.mem_map.1 h; omega)]
  omega
theorem trimA_all {n : Nat} {ar : List Ar} (h : ∀ a ∈ ar, ∃ t : Nat, a.2.2.2 = (t : Int) ∧ t < n) : trimA ((List.range n).map fun q : Nat => (q : Int)) ar = ar := by
 unfold trimA
 have : ar.map (turnA ((List.range n).map fun q : Nat => (q : Int))) = ar := by
  conv => rhs; rw [← List.map_id ar]
  refine List.map_congr_left fun a ha => ?_
  obtain ⟨t, h1, h2⟩ := h a ha
  unfold turnA
  rw [h1, place_all (by omega) (by omega), ← h1]
  rfl
 rw [this, List.filter_eq_self]
 intro a ha
 obtain ⟨t, h1, h2⟩ := h a ha
 simp [h1]
theorem trim_all (hf : faultM (z, l) = 0) : trimM z l (keptL (List.replicate l.length true) (List.replicate l.length true) l.length) = (z, l) := by
 rw [kept_all]
 unfold trimM
 have hz := (faultM_zero hf).2
 simp only [rangeB, Bool.and_eq_true, inB, decide_eq_true_eq] at hz
 rw [place_all (by omega) (by omega)]
 congr 1
 apply el_ext (by simp)
 intro j hj
 have hj' : j < l.length := by simpa using hj
 rw [el_map (by simpa using hj'), el_range_map (fun q : Nat => (q : Int)) hj']
 unfold trimS
 rw [Int.toNat_natCast, trimA_all (fun a ha => to_right hf hj' ha)]
theorem trim_start (hA : Least (AheadC z l) l.length aa) (hB : Least (BackC l) l.length bs) : placeI (keptL aa bs l.length) z < 0 ↔ (keptL aa bs l.length).length = 0 := by
 have hp := keptL_sorted aa bs l.length
 constructor
 ·intro h
  have hz : z ∉ keptL aa bs l.length := fun h9 => by have := (placeI_nonneg hp).2 h9; omega
  by_cases e : (keptL aa bs l.length).length = 0
  ·exact e
  ·obtain ⟨q, hq, hqn, h1, h2⟩ := keptL_mem (el_mem (l := keptL aa bs l.length) (j := 0) (by omega))
   have key := hA.2.2 (fun q => el aa q = true ∧ ¬ el bs q = true) ⟨fun q hq h9 => ?_, fun q hq h9 d hd => ?_⟩ q hqn h1
   ·exact absurd h2 key.2
   ·have h3 := hA.2.1.1 q hq h9
    exact ⟨h3, fun h4 => hz (by rw [← h9]; exact keptL_iff.2 ⟨hq, h3, h4⟩)⟩
   ·exact ⟨hA.2.1.2 q hq h9.1 d hd, fun h4 => h9.2 (hB.2.1.2 q hq d hd h4)⟩
 ·intro h
  have : keptL aa bs l.length = [] := List.eq_nil_of_length_eq_zero h
  rw [this, placeI_not (by simp)]
  omega
end
theorem trimmed_facts {z : Int} {l : List St} {aa bs : List Bool} (hf : faultM (z, l) = 0) (hA : Least (AheadC z l) l.length aa) (hB : Least (BackC l) l.length bs) :
    ∃ (tz : Int) (tl : List St), trimM z l (keptL aa bs l.length) = (tz, tl) ∧ faultM (tz, tl) = 0 ∧ (∀ a, Least (AheadC tz tl) tl.length a → a = List.replicate tl.length true) ∧ (∀ b, Least (BackC tl) tl.length b → b = List.replicate tl.length true) ∧
      (∀ a b, Least (AheadC tz tl) tl.length a → Least (BackC tl) tl.length b → trimM tz tl (keptL a b tl.length) = (tz, tl)) ∧ (tz < 0 ↔ tl.length = 0) ∧ tl.length ≤ l.length := by
  have hl : ((keptL aa bs l.length).map (trimS l (keptL aa bs l.length))).length = (keptL aa bs l.length).length := List.length_map _
  have h1 := trim_all_ahead hf hA hB
  have h2 := trim_all_back hf hA hB
  have h3 := trim_fault (aa := aa) (bs := bs) hf
  have h4 := trim_start hA hB
  rw [← hl] at h1 h2 h4
  refine ⟨_, _, rfl, h3, fun a ha => ha.one h1, fun b hb => hb.one h2, fun a b ha hb => ?_, h4, by rw [hl]; exact keptL_le _ _ _⟩
  rw [ha.one h1, hb.one h2]
  exact trim_all h3
end Go.Proofs.YtfhjncpakgailaaGreatDoor.Pl
namespace Go.Proofs.YtfhjncpakgailaaGreatDoor.Pl
set_option linter.unusedVariables false
set_option linter.unusedSimpArgs false
theorem arc_rightP {m : Mc} (h : faultM m = 0) {q : Nat} (hq : q < m.2.length) {a : Ar} (ha : a ∈ (el m.2 q).2) : 0 ≤ a.1 ∧ a.1 ≤ 1000 ∧ 0 ≤ a.2.1 ∧ a.2.1 ≤ 1000 ∧ 0 ≤ a.2.2.1 ∧ a.2.2.1 ≤ 1000000000 ∧ ∃ t : Nat, a.2.2.2 = (t : Int) ∧ t < m.2.length := by
 obtain ⟨z, l⟩ := m
 simp only at hq ha ⊢
 have h1 := (right_st h hq).2
 rw [List.all_eq_true] at h1
 have h2 := h1 a ha
 simp only [arcB, Bool.and_eq_true, inB, decide_eq_true_eq] at h2
 exact ⟨by omega, by omega, by omega, by omega, by omega, by omega, a.2.2.2.toNat, by omega, by omega⟩
theorem end_all {m : Mc} (hf : faultM m = 0) {bs : List Bool} (hB : Least (BackC m.2) m.2.length bs) {q : Nat} (hq : q < m.2.length) (h : el bs q = true) : ∃ c, EndC m.2 q c := by
 refine hB.2.2 (fun q => ∃ c, EndC m.2 q c) ⟨fun q hq hn => ⟨_, 0, q, 0, .nil, hq, hn, rfl⟩, fun q hq a ha => ?_⟩ q hq h
 rintro ⟨c, n, p, d, hr, hp, hn, rfl⟩
 obtain ⟨_, _, _, _, _, _, t, e1, e2⟩ := arc_rightP hf hq ha
 rw [e1, Int.toNat_natCast] at hr
 exact ⟨_, n + 1, p, a.2.2.1.toNat + d, Run.first ⟨a, ha, e1, rfl⟩ hr, hp, hn, rfl⟩
theorem pot_of {m : Mc} {vs : List Int} (hf : faultM m = 0) (hall : ∀ q, q < m.2.length → ∃ c, EndC m.2 q c) (hD : DstAns m (EndC m.2) vs 0) : Pot m.2 vs ∧ ∀ q, q < m.2.length → LeastP (EndC m.2 q) (el vs q).toNat := by
 have hL : vs.length = m.2.length ∧ ∀ q, q < m.2.length → ∃ c : Nat, LeastP (EndC m.2 q) c ∧ c ≤ 1000000000 ∧ el vs q = (c : Int) := by
  rcases hD with ⟨h0, _⟩ | ⟨_, ⟨_, h1, h2⟩ | ⟨h1, _⟩⟩
  ·exact absurd hf h0
  ·refine ⟨h1, fun q hq => ?_⟩
   rcases h2 q hq with ⟨k, _⟩ | ⟨c, hc, ⟨k1, k2, _⟩ | ⟨_, _, k⟩⟩
   ·obtain ⟨c, hc⟩ := hall q hq
    exact absurd hc (k c)
   ·exact ⟨c, hc, k1, k2⟩
   ·cases k
  ·cases h1
 refine ⟨⟨hL.1, fun q hq => ?_, fun q hq a ha => ?_, fun q hq hn => ?_⟩, fun q hq => ?_⟩
 ·obtain ⟨c, _, h2, h3⟩ := hL.2 q hq
  omega
 ·obtain ⟨_, _, _, _, h5, _, t, e1, e2⟩ := arc_rightP hf hq ha
  obtain ⟨c, h1, h2, h3⟩ := hL.2 q hq
  obtain ⟨d, k1, k2, k3⟩ := hL.2 t e2
  refine ⟨t, e1, e2, h5, ?_⟩
  obtain ⟨n, p, d0, hr, hp, hn, e⟩ := k1.1
  have := h1.2 (a.2.2.1.toNat + d) ⟨n + 1, p, a.2.2.1.toNat + d0, Run.first ⟨a, ha, e1, rfl⟩ hr, hp, hn, by omega⟩
  omega
 ·obtain ⟨c, h1, h2, h3⟩ := hL.2 q hq
  obtain ⟨f1, f2⟩ := fin_small hf hq hn
  have := h1.2 _ ⟨0, q, 0, .nil, hq, hn, rfl⟩
  omega
 ·obtain ⟨c, h1, h2, h3⟩ := hL.2 q hq
  rw [h3, Int.toNat_natCast]
  exact h1
theorem psh_arcN (vs : List Int) (l : List St) : arcN (pshL vs l) = arcN l := by
  have key : ∀ n, n ≤ l.length → arcN ((List.range n).map (pshS vs l)) = arcN (l.take n) := by
    intro n
    induction n with
    | zero => intro _; simp [arcN]
    | succ n ih =>
      intro hn
      rw [List.range_succ, List.map_append, arcN_append, ih (by omega), arcN_take (by omega)]
      simp [arcN, pshS]
  have := key l.length (Nat.le_refl _)
  rwa [List.take_of_length_le (Nat.le_refl _)] at this
theorem psh_over {vs : List Int} {l : List St} (h : pshO vs l = false) {q : Nat} (hq : q < l.length) {a : Ar} (ha : a ∈ (el l q).2) : (pshA vs q a).2.2.1 ≤ 1000000000 := by
 unfold pshO at h
 rw [List.any_eq_false] at h
 have h1 := h q (List.mem_range.2 hq)
 rw [Bool.not_eq_true, List.any_eq_false] at h1
 have h2 := h1 a ha
 simpa using h2
theorem psh_right {m : Mc} {vs : List Int} (hf : faultM m = 0) (hP : Pot m.2 vs) (hO : pshO vs m.2 = false) : faultM (pshM vs m) = 0 := by
 obtain ⟨h1, h2⟩ := faultM_zero hf
 refine faultM_ok ?_ ?_
 ·simp only [sizeB, pshM, psh_length, psh_arcN] at h1 ⊢
  exact h1
 ·simp only [rangeB, pshM, psh_length, Bool.and_eq_true] at h2 ⊢
  refine ⟨h2.1, ?_⟩
  rw [List.all_eq_true]
  intro s hs
  obtain ⟨q, hq, rfl⟩ := List.mem_map.1 hs
  rw [List.mem_range] at hq
  have g1 := hP.nn q hq
  unfold stB
  rw [Bool.and_eq_true]
  constructor
  ·simp only [pshS, pshF]
   by_cases hn : (el m.2 q).1 = 1000000001
   ·rw [if_pos hn]; rfl
   ·rw [if_neg hn]
    have := hP.fin q hq hn
    simp [finB, inB]
    omega
  ·rw [List.all_eq_true]
   intro b hb
   simp only [pshS] at hb
   obtain ⟨a, ha, rfl⟩ := List.mem_map.1 hb
   have k1 := psh_over hO hq ha
   obtain ⟨t, e1, e2, e3, e4⟩ := hP.arc q hq a ha
   obtain ⟨r1, r2, r3, r4, _, _, _⟩ := arc_rightP hf hq ha
   have k2 : (pshA vs q a).2.2.1 = a.2.2.1 + el vs t - el vs q := by simp only [pshA]; rw [e1, Int.toNat_natCast]
   have k3 := (hP.nn t e2).1
   simp only [arcB, Bool.and_eq_true, inB, decide_eq_true_eq]
   refine ⟨⟨⟨⟨r1, r2⟩, r3, r4⟩, by omega, k1⟩, ?_⟩
   simp only [pshA]
   omega
end Go.Proofs.YtfhjncpakgailaaGreatDoor.Pl
