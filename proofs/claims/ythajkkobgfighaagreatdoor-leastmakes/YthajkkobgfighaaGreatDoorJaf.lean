/- States that are alike: a table of what is told apart, round by round (no program in sight). -/
import Derived.Test.YthajkkobgfighaaGreatDoorJae
import Derived.Test.YthajkkobgfighaaGreatDoorJac
namespace Go.Proofs.YthajkkobgfighaaGreatDoor.Pl
set_option linter.unusedVariables false
set_option linter.unusedSimpArgs false
def aptK (l : List St) (T : Nat → Nat → Bool) (q p k : Nat) : Bool := (List.range k).any fun i => T (el (el l q).2 i).2.2.2.toNat (el (el l p).2 i).2.2.2.toNat
def aptB (l : List St) (T : Nat → Nat → Bool) (q p : Nat) : Bool := difB (el l q) (el l p) || aptK l T q p (el l q).2.length
theorem aptK_true {l : List St} {T : Nat → Nat → Bool} {q p k : Nat} : aptK l T q p k = true ↔ ∃ i, i < k ∧ T (el (el l q).2 i).2.2.2.toNat (el (el l p).2 i).2.2.2.toNat = true := by
 unfold aptK
 rw [List.any_eq_true]
 constructor
 ·rintro ⟨i, h1, h2⟩; exact ⟨i, List.mem_range.1 h1, h2⟩
 ·rintro ⟨i, h1, h2⟩; exact ⟨i, List.mem_range.2 h1, h2⟩
theorem aptB_true {l : List St} {T : Nat → Nat → Bool} {q p : Nat} : aptB l T q p = true ↔ difB (el l q) (el l p) = true ∨ ∃ i, i < (el l q).2.length ∧ T (el (el l q).2 i).2.2.2.toNat (el (el l p).2 i).2.2.2.toNat = true := by
 unfold aptB
 rw [Bool.or_eq_true, aptK_true]
section
variable {l : List St} {T : Nat → Nat → Bool}
theorem apt_sound (hto : ∀ q, q < l.length → ∀ a ∈ (el l q).2, ∃ t : Nat, a.2.2.2 = (t : Int) ∧ t < l.length) (hT : ∀ q p, q < l.length → p < l.length → T q p = true → Aprt l q p) {q p : Nat} (hq : q < l.length) (hp : p < l.length) (h : aptB l T q p = true) : Aprt l q p := by
  cases hd : difB (el l q) (el l p) with
  | true => exact .now hd
  | false =>
    unfold aptB at h
    rw [hd, Bool.false_or] at h
    obtain ⟨i, hi, hi2⟩ := aptK_true.1 h
    obtain ⟨t, ht, htl⟩ := hto q hq _ (el_mem hi)
    obtain ⟨u, hu, hul⟩ := hto p hp _ (el_mem (by rw [← dif_len hd]; exact hi))
    rw [ht, hu, Int.toNat_natCast, Int.toNat_natCast] at hi2
    exact .step hd hi ht hu (hT t u htl hul hi2)
theorem apt_all (hto : ∀ q, q < l.length → ∀ a ∈ (el l q).2, ∃ t : Nat, a.2.2.2 = (t : Int) ∧ t < l.length) (hT : ∀ q p, q < l.length → p < l.length → T q p = true → Aprt l q p) (hc : ∀ q p, q < l.length → p < l.length → T q p = false → aptB l T q p = false) : ∀ q p, q < l.length → p < l.length → (T q p = true ↔ Aprt l q p) := by
  intro q p hq hp
  refine ⟨hT q p hq hp, fun h => ?_⟩
  induction h with
  | @now q p hd =>
    cases e : T q p with
    | true => rfl
    | false =>
      have h9 := hc q p hq hp e
      unfold aptB at h9
      rw [hd] at h9
      simp at h9
  | @step q p i t u hd hi ht hu _ ih =>
    obtain ⟨t2, ht2, htl⟩ := hto q hq _ (el_mem hi)
    obtain ⟨u2, hu2, hul⟩ := hto p hp _ (el_mem (by rw [← dif_len hd]; exact hi))
    rw [ht] at ht2
    rw [hu] at hu2
    have e1 : t = t2 := by omega
    have e2 : u = u2 := by omega
    subst e1
    subst e2
    have h8 := ih htl hul
    cases e : T q p with
    | true => rfl
    | false =>
      have h9 := hc q p hq hp e
      unfold aptB at h9
      rw [Bool.or_eq_false_iff] at h9
      have h7 : aptK l T q p (el l q).2.length = true := aptK_true.2 ⟨i, hi, by rw [ht, hu, Int.toNat_natCast, Int.toNat_natCast]; exact h8⟩
      rw [h9.2] at h7
      cases h7
end
theorem nodup_few {α : Type} [DecidableEq α] : ∀ {L U : List α}, L.Nodup → (∀ t ∈ L, t ∈ U) → L.length ≤ U.length
  | [], U, _, _ => Nat.zero_le _
  | x :: L, U, h, hs => by
    rw [List.nodup_cons] at h
    have hx := hs x List.mem_cons_self
    have h1 := nodup_few (L := L) (U := U.erase x) h.2 (fun t ht => by
      have : t ≠ x := fun e => h.1 (e ▸ ht)
      exact (List.mem_erase_of_ne this).2 (hs t (List.mem_cons_of_mem _ ht)))
    have h2 := List.length_erase_of_mem hx
    have h3 : 0 < U.length := List.length_pos_of_mem hx
    simp only [List.length_cons]
    omega
section
variable {α : Type} [DecidableEq α]
theorem numH_fits {U : List α} (hU : U.length ≤ 60) : ∀ (hs : List (Hg α)) (L : List α) (n : Nat), (∀ h ∈ hs, h.2.2.1 ≤ 1000000000 ∧ h.2.2.2 ∈ U) → L.Nodup → (∀ t ∈ L, t ∈ U) → n + hs.length ≤ 400 → (numH hs L n).1 = 0 ∧ (numH hs L n).2.1.Nodup ∧ (∀ t ∈ (numH hs L n).2.1, t ∈ U) ∧ L.length ≤ (numH hs L n).2.1.length := by
  intro hs
  induction hs with
  | nil => intro L n _ h1 h2 _; exact ⟨rfl, h1, h2, Nat.le_refl _⟩
  | cons h hs ih =>
    intro L n hh h1 h2 hn
    obtain ⟨g1, g2⟩ := hh h List.mem_cons_self
    have k1 := addG_nodup h1 h.2.2.2
    have k2 : ∀ t ∈ addG L h.2.2.2, t ∈ U := fun t ht => by
      unfold addG at ht
      split at ht
      · exact h2 t ht
      · rcases List.mem_append.1 ht with g | g
        · exact h2 t g
        · rw [List.mem_singleton] at g; rw [g]; exact g2
    have k3 := nodup_few k1 k2
    simp only [List.length_cons] at hn
    obtain ⟨m1, m2, m3, m4⟩ := ih (addG L h.2.2.2) (n + 1) (fun k hk => hh k (List.mem_cons_of_mem _ hk)) k1 k2 (by omega)
    simp only [numH]
    rw [if_neg (by omega), if_neg (by omega)]
    exact ⟨m1, m2, m3, Nat.le_trans (addG_len L h.2.2.2).1 m4⟩
end
def fitN (l : List Int) (i : Nat) (b : Int) : Option Nat := if b = 0 then some i else if i < l.length ∧ el l i = b then some (i + 1) else none
theorem fitN_le {l : List Int} {i j : Nat} {b : Int} (h : fitN l i b = some j) (hi : i ≤ l.length) : j ≤ l.length := by
 unfold fitN at h
 split at h
 ·simp at h; omega
 ·split at h
  ·simp at h; omega
  ·simp at h
def idx (X Y q i j : Nat) : Nat := (q * (X + 1) + i) * (Y + 1) + j
theorem idx_lt {X Y q i j n : Nat} (hq : q < n) (hi : i ≤ X) (hj : j ≤ Y) : idx X Y q i j < n * (X + 1) * (Y + 1) := by
 unfold idx
 have h1 : q * (X + 1) + i + 1 ≤ n * (X + 1) := by
  have : (q + 1) * (X + 1) ≤ n * (X + 1) := Nat.mul_le_mul_right _ (by omega)
  rw [Nat.add_mul] at this
  omega
 have h2 : (q * (X + 1) + i + 1) * (Y + 1) ≤ n * (X + 1) * (Y + 1) := Nat.mul_le_mul_right _ h1
 rw [Nat.add_mul] at h2
 omega
def fitF (free : Bool) (y : List Int) (j : Nat) (b : Int) : Option Nat := if free = true then some j else fitN y j b
theorem fitF_le {free : Bool} {l : List Int} {i j : Nat} {b : Int} (h : fitF free l i b = some j) (hi : i ≤ l.length) : j ≤ l.length := by
 unfold fitF at h
 split at h
 ·simp at h; omega
 ·exact fitN_le h hi
def Edge (l : List St) (x y : List Int) (free : Bool) (k w k' : Nat) : Prop :=
 ∃ q i j a t i' j', q < l.length ∧ i ≤ x.length ∧ j ≤ y.length ∧ a ∈ (el l q).2 ∧ a.2.2.2 = ((t : Nat) : Int) ∧ fitN x i a.1 = some i' ∧ fitF free y j a.2.1 = some j' ∧ k = idx x.length y.length q i j ∧ w = a.2.2.1.toNat ∧ k' = idx x.length y.length t i' j'
def noneI : Int := 1152921504606846976
def sumT : List Int → Nat
 | [] => 0
 | c :: l => c.toNat + sumT l
theorem sumT_set {v : Int} : ∀ {cs : List Int} {k : Nat}, k < cs.length → 0 ≤ v → v < el cs k → sumT (cs.set k v) < sumT cs
  | [], k, h, _, _ => absurd h (by simp)
  | c :: l, 0, _, h0, h => by
    rw [el_zero] at h
    simp only [List.set_cons_zero, sumT]
    omega
  | c :: l, k + 1, hk, h0, h => by
    rw [el_succ] at h
    have := sumT_set (cs := l) (k := k) (by simpa using hk) h0 h
    simp only [List.set_cons_succ, sumT]
    omega
theorem el_setT {l : List Int} {q j : Nat} (hq : q < l.length) (x : Int) : el (l.set q x) j = if j = q then x else el l j := by
 by_cases h : j = q
 ·subst h; rw [if_pos rfl]; simp [el, hq]
 ·rw [if_neg h]; simp [el, List.getElem?_set, Ne.symm h]
structure CostT (l : List St) (x y : List Int) (free : Bool) (z : Int) (cs : List Int) : Prop where
 len : cs.length = l.length * (x.length + 1) * (y.length + 1)
 rng : ∀ k, k < cs.length → 0 ≤ el cs k ∧ el cs k ≤ noneI
 beg : 0 ≤ z → el cs (idx x.length y.length z.toNat 0 0) = 0
 run : ∀ k, k < cs.length → el cs k < noneI → 0 ≤ z ∧ ∃ n, Run (Edge l x y free) (idx x.length y.length z.toNat 0 0) n k (el cs k).toNat
def ClosedT (l : List St) (x y : List Int) (free : Bool) (cs : List Int) : Prop := ∀ k w k', k < cs.length → el cs k < noneI → Edge l x y free k w k' → el cs k' ≤ el cs k + (w : Int)
theorem CostT.relax {l : List St} {x y : List Int} {free : Bool} {z : Int} {cs : List Int} (h : CostT l x y free z cs) {k w k' : Nat} (hk : k < cs.length) (hc : el cs k < noneI) (he : Edge l x y free k w k') (hk' : k' < cs.length) (hl : el cs k + (w : Int) < el cs k') :
  CostT l x y free z (cs.set k' (el cs k + (w : Int))) ∧ sumT (cs.set k' (el cs k + (w : Int))) < sumT cs := by
 have h0 := (h.rng k hk).1
 have h1 := (h.rng k' hk').2
 refine ⟨⟨by rw [List.length_set]; exact h.len, fun j hj => ?_, fun hz => ?_, fun j hj hn => ?_⟩, sumT_set hk' (by omega) hl⟩
 ·rw [List.length_set] at hj
  rw [el_setT hk']
  split
  ·omega
  ·exact h.rng j hj
 ·have := h.beg hz
  rw [el_setT hk']
  split
  ·rename_i e; rw [e] at this; omega
  ·exact this
 ·rw [List.length_set] at hj
  rw [el_setT hk'] at hn ⊢
  split
  ·rename_i e
   subst e
   obtain ⟨hz, n, hr⟩ := h.run k hk hc
   refine ⟨hz, n + 1, ?_⟩
   have := hr.step he
   rwa [show (el cs k + (w : Int)).toNat = (el cs k).toNat + w by omega]
  ·rename_i e
   rw [if_neg e] at hn
   exact h.run j hj hn
theorem el_replicateT {n k : Nat} {c : Int} (h : k < n) : el (List.replicate n c) k = c := by simp [el, h]
theorem CostT.none {l : List St} {x y : List Int} {free : Bool} {z : Int} (hz : z < 0) : CostT l x y free z (List.replicate (l.length * (x.length + 1) * (y.length + 1)) noneI) :=
 ⟨by simp, fun k hk => by rw [List.length_replicate] at hk; rw [el_replicateT hk]; unfold noneI; omega, fun h => by omega, fun k hk hn => by rw [List.length_replicate] at hk; rw [el_replicateT hk] at hn; omega⟩
theorem CostT.start {l : List St} {x y : List Int} {free : Bool} {z : Nat} (hz : z < l.length) : CostT l x y free z ((List.replicate (l.length * (x.length + 1) * (y.length + 1)) noneI).set (idx x.length y.length z 0 0) 0) := by
 have hlt : idx x.length y.length z 0 0 < (List.replicate (l.length * (x.length + 1) * (y.length + 1)) noneI).length := by rw [List.length_replicate]; exact idx_lt hz (by omega) (by omega)
 refine ⟨by simp, fun k hk => ?_, fun _ => ?_, fun k hk hn => ?_⟩
 ·rw [List.length_set, List.length_replicate] at hk
  rw [el_setT hlt, el_replicateT hk]
  unfold noneI
  split <;> omega
 ·rw [Int.toNat_natCast, el_setT hlt, if_pos rfl]
 ·rw [List.length_set, List.length_replicate] at hk
  rw [el_setT hlt, el_replicateT hk] at hn ⊢
  split
  ·rename_i e
   refine ⟨by omega, 0, ?_⟩
   rw [Int.toNat_natCast, e]
   exact .nil
  ·rename_i e
   rw [if_neg e] at hn
   omega
theorem CostT.told {l : List St} {x y : List Int} {free : Bool} {z : Nat} {cs : List Int} (h : CostT l x y free z cs) (hc : ClosedT l x y free cs) (hz : z < l.length) (hn : l.length ≤ 60) (hx : x.length ≤ 100) (hy : y.length ≤ 100)
  (hto : ∀ q, q < l.length → ∀ a ∈ (el l q).2, (∃ t : Nat, a.2.2.2 = (t : Int) ∧ t < l.length) ∧ a.2.2.1 ≤ 1000000000) {k : Nat} (hk : k < cs.length) :
  (el cs k < 1000000000000000 ∧ LeastP (fun c => ∃ n, Run (Edge l x y free) (idx x.length y.length z 0 0) n k c) (el cs k).toNat) ∨ (el cs k = noneI ∧ ∀ n c, ¬ Run (Edge l x y free) (idx x.length y.length z 0 0) n k c) := by
 have hs : idx x.length y.length z 0 0 < cs.length := by rw [h.len]; exact idx_lt hz (by omega) (by omega)
 have hE : ∀ k w j, Edge l x y free k w j → j < cs.length ∧ w ≤ 1000000000 := by
  rintro k w j ⟨q, i, j, a, t, i', j', hq, hi, hj, ha, ht, f1, f2, rfl, rfl, rfl⟩
  obtain ⟨⟨t', e1, e2⟩, e3⟩ := hto q hq a ha
  have : t = t' := by omega
  subst this
  exact ⟨by rw [h.len]; exact idx_lt e2 (fitN_le f1 hi) (fitF_le f2 hj), by omega⟩
 have hN : cs.length ≤ 612060 := by
  rw [h.len]
  have h1 : l.length * (x.length + 1) ≤ 60 * 101 := Nat.mul_le_mul hn (by omega)
  have h2 : l.length * (x.length + 1) * (y.length + 1) ≤ 60 * 101 * 101 := Nat.mul_le_mul h1 (by omega)
  omega
 have hbig : cs.length * 1000000000 < 1000000000000000 := by
  have : cs.length * 1000000000 ≤ 612060 * 1000000000 := Nat.mul_le_mul_right _ hN
  omega
 have hB : (noneI).toNat = 1152921504606846976 := rfl
 have hbeg : el cs (idx x.length y.length z 0 0) = 0 := by have := h.beg (by omega); rwa [Int.toNat_natCast] at this
 have key := table_told (E := Edge l x y free) (s := idx x.length y.length z 0 0) (T := fun k => if k < cs.length then (el cs k).toNat else 1152921504606846976) (B := 1152921504606846976) (N := cs.length) (W := 1000000000) hs hE (by omega)
  (by rw [if_pos hs, hbeg]; rfl)
  (fun k => by
   split
   ·rename_i hk; have := (h.rng k hk).2; unfold noneI at this; omega
   ·omega)
  (fun k w j hk e => by
   by_cases g : k < cs.length
   ·rw [if_pos g] at hk ⊢
    have h1 := (h.rng k g).1
    have h2 := hc k w j g (by unfold noneI; omega) e
    have h3 := (h.rng j (hE _ _ _ e).1).1
    rw [if_pos (hE _ _ _ e).1]
    omega
   ·rw [if_neg g] at hk; omega)
  (fun k hk => by
   by_cases g : k < cs.length
   ·rw [if_pos g] at hk ⊢
    obtain ⟨_, n, hr⟩ := h.run k g (by have := (h.rng k g).1; unfold noneI; omega)
    rw [Int.toNat_natCast] at hr
    exact ⟨n, hr⟩
   ·rw [if_neg g] at hk; omega) k
 simp only [if_pos hk] at key
 rcases key with ⟨h1, h2⟩ | ⟨h1, h2⟩
 ·refine .inl ⟨?_, h2⟩
  obtain ⟨n, hr⟩ := h2.1
  obtain ⟨m, d, hm, hd⟩ := hr.short hs (fun k w j e => (hE k w j e).1)
  have h3 := hd.cost (W := 1000000000) (fun k w j e => (hE k w j e).2)
  have h4 := h2.2 d ⟨m, hd⟩
  have h5 : m * 1000000000 ≤ cs.length * 1000000000 := Nat.mul_le_mul_right _ (by omega)
  have h6 := (h.rng k hk).1
  omega
 ·refine .inr ⟨?_, h2⟩
  have := (h.rng k hk).1
  unfold noneI
  omega
def ChpAns (P : Nat → Prop) (b : Int) : Prop := (b = noneI ∧ ∀ c, ¬ P c) ∨ ∃ c : Nat, LeastP P c ∧ b = (c : Int) ∧ c < 1152921504606846976
theorem ChpAns.one {P : Nat → Prop} {b b' : Int} (h : ChpAns P b) (k : ChpAns P b') : b = b' := by
 rcases h with ⟨rfl, h⟩ | ⟨c, hc, rfl, _⟩ <;> rcases k with ⟨rfl, k⟩ | ⟨d, hd, rfl, _⟩
 ·rfl
 ·exact absurd hd.1 (h d)
 ·exact absurd hc.1 (k c)
 ·rw [hc.one hd]
theorem ChpAns.congr {P Q : Nat → Prop} (hPQ : ∀ c, P c ↔ Q c) {b : Int} (h : ChpAns P b) : ChpAns Q b := by
 have : P = Q := funext fun c => propext (hPQ c)
 rwa [← this]
theorem ChpAns.wgh {P : Nat → Prop} {b : Int} (h : ChpAns P b) : WghAns P (if b = noneI then 1000000001 else if 1000000000 < b then 0 else b) (if b = noneI then 0 else if 1000000000 < b then 4 else 0) := by
 rcases h with ⟨rfl, h⟩ | ⟨c, hc, rfl, hlt⟩
 ·exact .inl ⟨h, by rw [if_pos rfl], by rw [if_pos rfl]⟩
 ·have hne : ¬ (c : Int) = noneI := by unfold noneI; omega
  rw [if_neg hne, if_neg hne]
  by_cases g : (1000000000 : Int) < c
  ·rw [if_pos g, if_pos g]
   exact .inr ⟨c, hc, .inr ⟨by omega, rfl, rfl⟩⟩
  ·rw [if_neg g, if_neg g]
   exact .inr ⟨c, hc, .inl ⟨by omega, rfl, rfl⟩⟩
section
variable {E : Nat → Nat → Nat → Prop} {s : Nat}
theorem Run.parts {n k c : Nat} (h : Run E s n k c) : ∃ f g : Nat → Nat, f 0 = s ∧ f n = k ∧ g n = c ∧ (∀ i, i ≤ n → Run E s i (f i) (g i) ∧ ∃ d, Run E (f i) (n - i) k d ∧ g i + d = c) ∧ ∀ i j, i ≤ j → j ≤ n → g i ≤ g j := by
  induction h with
  | nil => exact ⟨fun _ => s, fun _ => 0, rfl, rfl, rfl, fun i hi => ⟨by rw [show i = 0 by omega]; exact .nil, 0, by rw [show i = 0 by omega]; exact .nil, rfl⟩, fun _ _ _ _ => Nat.le_refl _⟩
  | step h e ih =>
    rename_i n k c w j
    obtain ⟨f, g, f0, fn, gn, hf, hg⟩ := ih
    refine ⟨fun i => if i ≤ n then f i else j, fun i => if i ≤ n then g i else c + w, by simp [f0], if_neg (by omega), if_neg (by omega), fun i hi => ?_, fun a b hab hb => ?_⟩
    · by_cases q : i ≤ n
      · simp only [q, if_true]
        obtain ⟨h1, d, h2, h3⟩ := hf i q
        refine ⟨h1, d + w, ?_, by omega⟩
        have := h2.step e
        rwa [show n - i + 1 = n + 1 - i by omega] at this
      · obtain rfl : i = n + 1 := by omega
        simp only [q, if_false]
        exact ⟨h.step e, 0, by rw [Nat.sub_self]; exact .nil, by omega⟩
    · simp only
      by_cases qb : b ≤ n
      · rw [if_pos qb, if_pos (by omega)]; exact hg a b hab qb
      · rw [if_neg qb]
        by_cases qa : a ≤ n
        · rw [if_pos qa]
          have := hg a n qa (Nat.le_refl _)
          omega
        · rw [if_neg qa]; omega
theorem Run.cheap {N : Nat} (hs : s < N) (hE : ∀ k w j, E k w j → j < N) : ∀ {n k c : Nat}, Run E s n k c → ∃ m d, m < N ∧ d ≤ c ∧ Run E s m k d := by
  have key : ∀ b n k c, n < b → Run E s n k c → ∃ m d, m < N ∧ d ≤ c ∧ Run E s m k d := by
    intro b
    induction b with
    | zero => intro n k c hn; omega
    | succ b ih =>
      intro n k c hn h
      by_cases g : n < N
      · exact ⟨n, c, g, Nat.le_refl _, h⟩
      · obtain ⟨f, gg, f0, fn, gn, hf, hg⟩ := h.parts
        have hin : ∀ i, i ≤ n → f i < N := fun i hi => by
          have h1 := (hf i hi).1
          generalize gg i = y2 at h1
          generalize f i = y at h1
          cases h1 with
          | nil => exact hs
          | step _ e => exact hE _ _ _ e
        obtain ⟨i, j, hij, hj, e⟩ := twice hin (by omega)
        have h1 := (hf i (by omega)).1
        obtain ⟨_, d', h2, h3⟩ := hf j hj
        rw [← e] at h2
        have h4 := hg i j (by omega) hj
        obtain ⟨m, d, hm, hd, hr⟩ := ih _ _ _ (by omega) (h1.trans h2)
        exact ⟨m, d, hm, by omega, hr⟩
  exact fun {n k c} h => key (n + 1) n k c (by omega) h
theorem Run.head {n k c : Nat} (h : Run E s (n + 1) k c) : ∃ j w c', E s w j ∧ Run E j n k c' ∧ c = w + c' := by
  have key : ∀ {m k c}, Run E s m k c → ∀ n, m = n + 1 → ∃ j w c', E s w j ∧ Run E j n k c' ∧ c = w + c' := by
    intro m k c h
    induction h with
    | nil => intro n hn; omega
    | step h e ih =>
      rename_i m k c w j
      intro n hn
      obtain rfl : m = n := by omega
      cases m with
      | zero =>
        cases h with
        | nil => exact ⟨j, w, 0, e, .nil, by omega⟩
      | succ m =>
        obtain ⟨j', w', c', e', h', rfl⟩ := ih m rfl
        exact ⟨j', w', c' + w, e', h'.step e, by omega⟩
  exact key h n rfl
theorem Run.first {j w n k c : Nat} (e : E s w j) (h : Run E j n k c) : Run E s (n + 1) k (w + c) := by
 have h1 : Run E s 1 j (0 + w) := Run.nil.step e
 have := h1.trans h
 rwa [show 1 + n = n + 1 by omega, Nat.zero_add] at this
end
def ArcE (l : List St) (k w j : Nat) : Prop := ∃ a ∈ (el l k).2, a.2.2.2 = (j : Int) ∧ w = a.2.2.1.toNat
def FarC (z : Int) (l : List St) (q c : Nat) : Prop := 0 ≤ z ∧ ∃ n, Run (ArcE l) z.toNat n q c
def EndC (l : List St) (q c : Nat) : Prop := ∃ n p d, Run (ArcE l) q n p d ∧ p < l.length ∧ (el l p).1 ≠ 1000000001 ∧ c = d + (el l p).1.toNat
structure FarT (z : Int) (l : List St) (cs : List Int) : Prop where
 len : cs.length = l.length
 rng : ∀ q, q < l.length → 0 ≤ el cs q ∧ el cs q ≤ noneI
 run : ∀ q, q < l.length → el cs q < noneI → FarC z l q (el cs q).toNat
structure EndT (l : List St) (cs : List Int) : Prop where
 len : cs.length = l.length
 rng : ∀ q, q < l.length → 0 ≤ el cs q ∧ el cs q ≤ noneI
 run : ∀ q, q < l.length → el cs q < noneI → EndC l q (el cs q).toNat
def FarLe (z : Int) (l : List St) (k : Nat) (cs : List Int) : Prop := ∀ n q c, n ≤ k → 0 ≤ z → Run (ArcE l) z.toNat n q c → el cs q ≤ (c : Int)
def FarTo (z : Int) (l : List St) (k q : Nat) (cs : List Int) : Prop := FarLe z l k cs ∧ ∀ n q' c w j, n ≤ k → q' < q → 0 ≤ z → Run (ArcE l) z.toNat n q' c → ArcE l q' w j → el cs j ≤ (c : Int) + (w : Int)
def EndLe (l : List St) (k : Nat) (cs : List Int) : Prop := ∀ n q p d, n ≤ k → Run (ArcE l) q n p d → p < l.length → (el l p).1 ≠ 1000000001 → el cs q ≤ (d : Int) + (el l p).1
def EndTo (l : List St) (k q : Nat) (cs : List Int) : Prop := EndLe l k cs ∧ ∀ n q' w j p d, n ≤ k → q' < q → ArcE l q' w j → Run (ArcE l) j n p d → p < l.length → (el l p).1 ≠ 1000000001 → el cs q' ≤ (w : Int) + (d : Int) + (el l p).1
theorem arcE_in {l : List St} {k w j : Nat} (h : ArcE l k w j) : k < l.length := by
 obtain ⟨a, ha, _⟩ := h
 exact el_in ha
theorem FarTo.less {z : Int} {l : List St} {k q : Nat} {cs ds : List Int} (h : FarTo z l k q cs) (hd : ∀ j, el ds j ≤ el cs j) : FarTo z l k q ds := ⟨fun n j c h1 h2 h3 => Int.le_trans (hd j) (h.1 n j c h1 h2 h3), fun n q' c w j h1 h2 h3 h4 h5 => Int.le_trans (hd j) (h.2 n q' c w j h1 h2 h3 h4 h5)⟩
theorem EndTo.less {l : List St} {k q : Nat} {cs ds : List Int} (h : EndTo l k q cs) (hd : ∀ j, el ds j ≤ el cs j) : EndTo l k q ds := ⟨fun n j p d h1 h2 h3 h4 => Int.le_trans (hd j) (h.1 n j p d h1 h2 h3 h4), fun n q' w j p d h1 h2 h3 h4 h5 h6 => Int.le_trans (hd q') (h.2 n q' w j p d h1 h2 h3 h4 h5 h6)⟩
theorem FarTo.round {z : Int} {l : List St} {k : Nat} {cs : List Int} (h : FarTo z l k l.length cs) : FarTo z l (k + 1) 0 cs := by
  refine ⟨fun n q c hn hz hr => ?_, fun n q' c w j _ hq => absurd hq (by omega)⟩
  by_cases g : n ≤ k
  · exact h.1 n q c g hz hr
  · obtain rfl : n = k + 1 := by omega
    cases hr with
    | step hr e =>
      have := h.2 k _ _ _ _ (Nat.le_refl _) (arcE_in e) hz hr e
      push_cast
      exact this
theorem EndTo.round {l : List St} {k : Nat} {cs : List Int} (h : EndTo l k l.length cs) : EndTo l (k + 1) 0 cs := by
 refine ⟨fun n q p d hn hr hp hf => ?_, fun n q' w j p d _ hq => absurd hq (by omega)⟩
 by_cases g : n ≤ k
 ·exact h.1 n q p d g hr hp hf
 ·obtain rfl : n = k + 1 := by omega
  obtain ⟨j, w, c', e, hr', rfl⟩ := hr.head
  have := h.2 k q w j p c' (Nat.le_refl _) (arcE_in e) e hr' hp hf
  push_cast
  exact this
theorem FarTo.next {z : Int} {l : List St} {k q : Nat} {cs : List Int} (h : FarTo z l k q cs) (hd : ∀ w j, ArcE l q w j → el cs q < noneI → el cs j ≤ el cs q + (w : Int)) (hb : ∀ n c, n ≤ k → 0 ≤ z → Run (ArcE l) z.toNat n q c → el cs q < noneI) : FarTo z l k (q + 1) cs := by
 refine ⟨h.1, fun n q' c w j hn' hq hz hr e => ?_⟩
 by_cases g : q' < q
 ·exact h.2 n q' c w j hn' g hz hr e
 ·obtain rfl : q' = q := by omega
  have h1 := hd w j e (hb n c hn' hz hr)
  have h2 := h.1 n q' c hn' hz hr
  omega
theorem EndTo.next {l : List St} {k q : Nat} {cs : List Int} (h : EndTo l k q cs) (hd : ∀ w j, ArcE l q w j → el cs j < noneI → el cs q ≤ el cs j + (w : Int)) (hb : ∀ n j p d, n ≤ k → Run (ArcE l) j n p d → p < l.length → (el l p).1 ≠ 1000000001 → el cs j < noneI) : EndTo l k (q + 1) cs := by
 refine ⟨h.1, fun n q' w j p d hn' hq e hr hp hf => ?_⟩
 by_cases g : q' < q
 ·exact h.2 n q' w j p d hn' g e hr hp hf
 ·obtain rfl : q' = q := by omega
  have h1 := hd w j e (hb n j p d hn' hr hp hf)
  have h2 := h.1 n j p d hn' hr hp hf
  omega
theorem set_less {cs : List Int} {k : Nat} {c : Int} (hk : k < cs.length) (h : c < el cs k) (j : Nat) : el (cs.set k c) j ≤ el cs j := by
 rw [el_setT hk]
 split
 ·rename_i e; rw [e]; omega
 ·omega
theorem FarT.relax {z : Int} {l : List St} {cs : List Int} (h : FarT z l cs) {q j w : Nat} (e : ArcE l q w j) (hq : el cs q < noneI) (hj : j < l.length) (hlt : el cs q + (w : Int) < el cs j) : FarT z l (cs.set j (el cs q + (w : Int))) := by
 have hql := arcE_in e
 have hjl : j < cs.length := by rw [h.len]; exact hj
 have h0 := h.rng q hql
 refine ⟨by rw [List.length_set]; exact h.len, fun i hi => ?_, fun i hi hn => ?_⟩
 ·rw [el_setT hjl]
  split
  ·have := h.rng j hj; omega
  ·exact h.rng i hi
 ·rw [el_setT hjl] at hn ⊢
  split
  ·rename_i e2
   subst e2
   obtain ⟨hz, n, hr⟩ := h.run q hql hq
   refine ⟨hz, n + 1, ?_⟩
   have := hr.step e
   rwa [show (el cs q + (w : Int)).toNat = (el cs q).toNat + w by omega]
  ·rename_i e2
   rw [if_neg e2] at hn
   exact h.run i hi hn
theorem EndT.relax {l : List St} {cs : List Int} (h : EndT l cs) {q j w : Nat} (e : ArcE l q w j) (hj : j < l.length) (hn : el cs j < noneI) (hlt : el cs j + (w : Int) < el cs q) : EndT l (cs.set q (el cs j + (w : Int))) := by
 have hql := arcE_in e
 have hqc : q < cs.length := by rw [h.len]; exact hql
 have h0 := h.rng j hj
 refine ⟨by rw [List.length_set]; exact h.len, fun i hi => ?_, fun i hi hi2 => ?_⟩
 ·rw [el_setT hqc]
  split
  ·have := h.rng q hql; omega
  ·exact h.rng i hi
 ·rw [el_setT hqc] at hi2 ⊢
  split
  ·rename_i e2
   subst e2
   obtain ⟨n, p, d, hr, hp, hf, hc⟩ := h.run j hj hn
   exact ⟨n + 1, p, w + d, Run.first e hr, hp, hf, by omega⟩
  ·rename_i e2
   rw [if_neg e2] at hi2
   exact h.run i hi hi2
theorem arcE_small {m : Mc} (h : faultM m = 0) {k w j : Nat} (e : ArcE m.2 k w j) : j < m.2.length ∧ w ≤ 1000000000 := by
 obtain ⟨a, ha, e1, rfl⟩ := e
 have h1 := (right_parts h).2 _ (el_mem (el_in ha))
 simp only [stB, Bool.and_eq_true, List.all_eq_true] at h1
 have h2 := h1.2 _ ha
 simp only [arcB, inB, Bool.and_eq_true, decide_eq_true_eq] at h2
 omega
theorem run_small {m : Mc} (h : faultM m = 0) {s n k c : Nat} (hr : Run (ArcE m.2) s n k c) (hn : n ≤ 60) : c ≤ 60000000000 := by
 have h1 := hr.cost (W := 1000000000) (fun k w j e => (arcE_small h e).2)
 have h2 : n * 1000000000 ≤ 60 * 1000000000 := Nat.mul_le_mul_right _ hn
 omega
def TldQ (P : Nat → Prop) (b : Int) : Prop := (b = noneI ∧ ∀ c, ¬ P c) ∨ ∃ c : Nat, LeastP P c ∧ b = (c : Int) ∧ c ≤ 100000000000
theorem FarT.told {m : Mc} {cs : List Int} (hf : faultM m = 0) (h : FarT m.1 m.2 cs) (hle : FarLe m.1 m.2 m.2.length cs) {q : Nat} (hq : q < m.2.length) : TldQ (FarC m.1 m.2 q) (el cs q) := by
 have h60 := (right_size (z := m.1) (l := m.2) hf).1
 obtain ⟨⟨hz1, hz2⟩, _⟩ := right_parts hf
 have low : ∀ c, FarC m.1 m.2 q c → ∃ d, d ≤ c ∧ d ≤ 60000000000 ∧ el cs q ≤ (d : Int) := by
  rintro c ⟨hz, n, hr⟩
  obtain ⟨n', d, hn, hd, hr'⟩ := hr.cheap (N := m.2.length) (by omega) (fun k w j e => (arcE_small hf e).1)
  exact ⟨d, hd, run_small hf hr' (by omega), hle n' q d (by omega) hz hr'⟩
 have hrng := h.rng q hq
 by_cases g : el cs q < noneI
 ·have h1 := h.run q hq g
  obtain ⟨d, hd, hb, hl⟩ := low _ h1
  refine .inr ⟨(el cs q).toNat, ⟨h1, fun c hc => ?_⟩, by omega, by omega⟩
  obtain ⟨d', hd', _, hl'⟩ := low c hc
  omega
 ·refine .inl ⟨by omega, fun c hc => ?_⟩
  obtain ⟨d, hd, hb, hl⟩ := low c hc
  unfold noneI at g
  omega
theorem EndT.told {m : Mc} {cs : List Int} (hf : faultM m = 0) (h : EndT m.2 cs) (hle : EndLe m.2 m.2.length cs) {q : Nat} (hq : q < m.2.length) : TldQ (EndC m.2 q) (el cs q) := by
 have h60 := (right_size (z := m.1) (l := m.2) hf).1
 have fin : ∀ p, p < m.2.length → (el m.2 p).1 ≠ 1000000001 → 0 ≤ (el m.2 p).1 ∧ (el m.2 p).1 ≤ 1000000000 := fun p hp hn => by
  have h1 := stB_fin ((right_parts hf).2 _ (el_mem hp))
  simp [finB, inB] at h1
  omega
 have low : ∀ c, EndC m.2 q c → ∃ d, d ≤ c ∧ d ≤ 61000000000 ∧ el cs q ≤ (d : Int) := by
  rintro c ⟨n, p, d, hr, hp, hn, rfl⟩
  obtain ⟨n', d', hn', hd, hr'⟩ := hr.cheap (N := m.2.length) hq (fun k w j e => (arcE_small hf e).1)
  have h1 := run_small hf hr' (by omega)
  have h2 := hle n' q p d' (by omega) hr' hp hn
  have h3 := fin p hp hn
  exact ⟨d' + (el m.2 p).1.toNat, by omega, by omega, by omega⟩
 have hrng := h.rng q hq
 by_cases g : el cs q < noneI
 ·have h1 := h.run q hq g
  obtain ⟨d, hd, hb, hl⟩ := low _ h1
  refine .inr ⟨(el cs q).toNat, ⟨h1, fun c hc => ?_⟩, by omega, by omega⟩
  obtain ⟨d', hd', _, hl'⟩ := low c hc
  omega
 ·refine .inl ⟨by omega, fun c hc => ?_⟩
  obtain ⟨d, hd, hb, hl⟩ := low c hc
  unfold noneI at g
  omega
def LstAns (P : Nat → Nat → Prop) (N : Nat) (vs : List Int) (e : Int) : Prop := (e = 0 ∧ vs.length = N ∧ ∀ q, q < N → WghAns (P q) (el vs q) 0) ∨ (e = 4 ∧ vs = [] ∧ ∃ q, q < N ∧ WghAns (P q) 0 4)
theorem LstAns.one {P : Nat → Nat → Prop} {N : Nat} {vs ws : List Int} {e f : Int} (h : LstAns P N vs e) (k : LstAns P N ws f) : vs = ws ∧ e = f := by
 rcases h with ⟨rfl, h1, h2⟩ | ⟨rfl, rfl, q, hq, h3⟩ <;> rcases k with ⟨rfl, k1, k2⟩ | ⟨rfl, rfl, p, hp, k3⟩
 ·refine ⟨el_ext (by omega) fun j hj => ?_, rfl⟩
  exact ((h2 j (by omega)).one (k2 j (by omega))).1
 ·exact absurd ((h2 p hp).one k3).2 (by decide)
 ·exact absurd (h3.one (k2 q hq)).2 (by decide)
 ·exact ⟨rfl, rfl⟩
def tldN (b : Int) : Int := if b = noneI then 1000000001 else if 1000000000 < b then 0 else b
def tldE (b : Int) : Int := if b = noneI then 0 else if 1000000000 < b then 4 else 0
theorem TldQ.wgh {P : Nat → Prop} {b : Int} (h : TldQ P b) : WghAns P (tldN b) (tldE b) := by
 have : ChpAns P b := by
  rcases h with h | ⟨c, hc, hb, hl⟩
  ·exact .inl h
  ·exact .inr ⟨c, hc, hb, by omega⟩
 exact this.wgh
theorem lst_ok {P : Nat → Nat → Prop} {cs : List Int} (h : ∀ q, q < cs.length → TldQ (P q) (el cs q)) (hb : ∀ q, q < cs.length → tldE (el cs q) = 0) : LstAns P cs.length (cs.map tldN) 0 := by
 refine .inl ⟨rfl, by simp, fun q hq => ?_⟩
 have := (h q hq).wgh
 rw [hb q hq] at this
 rw [el_map hq]
 exact this
theorem lst_no {P : Nat → Nat → Prop} {cs : List Int} (h : ∀ q, q < cs.length → TldQ (P q) (el cs q)) {q : Nat} (hq : q < cs.length) (hb : tldE (el cs q) ≠ 0) : LstAns P cs.length [] 4 := by
 refine .inr ⟨rfl, rfl, q, hq, ?_⟩
 have h1 := (h q hq).wgh
 have h2 : tldE (el cs q) = 4 ∧ tldN (el cs q) = 0 := by
  unfold tldE at hb
  unfold tldE tldN
  split at hb
  ·exact absurd rfl hb
  ·rename_i e1
   split at hb
   ·rename_i e2
    rw [if_neg e1, if_pos e2, if_neg e1, if_pos e2]
    exact ⟨rfl, rfl⟩
   ·exact absurd rfl hb
 rw [h2.1, h2.2] at h1
 exact h1
def LeaAns (m : Mc) (n e : Int) : Prop := ∃ vs f, LstAns (EndC m.2) m.2.length vs f ∧ ((f ≠ 0 ∧ n = 0 ∧ e = f) ∨ (f = 0 ∧ e = 0 ∧ n = if m.1 < 0 then 1000000001 else el vs m.1.toNat))
theorem LeaAns.one {m : Mc} {n e n' e' : Int} (h : LeaAns m n e) (k : LeaAns m n' e') : n = n' ∧ e = e' := by
 obtain ⟨vs, f, h1, h2⟩ := h
 obtain ⟨ws, g, k1, k2⟩ := k
 obtain ⟨rfl, rfl⟩ := h1.one k1
 rcases h2 with ⟨h2, rfl, rfl⟩ | ⟨h2, rfl, rfl⟩ <;> rcases k2 with ⟨k2, rfl, rfl⟩ | ⟨k2, rfl, rfl⟩
 ·exact ⟨rfl, rfl⟩
 ·exact absurd k2 h2
 ·exact absurd h2 k2
 ·exact ⟨rfl, rfl⟩
end Go.Proofs.YthajkkobgfighaaGreatDoor.Pl
