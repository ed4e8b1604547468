/- What a machine costs for words: the table of costs (no program in sight). -/
import Derived.Test.YtnbiojjcebdljaaPlainWh
import Derived.Test.YtnbiojjcebdljaaPlainRa
namespace Go.Proofs.Ytnbiojjcebdljaa.Pl
set_option linter.unusedVariables false
set_option linter.unusedSimpArgs false
/-- No cost at all. -/
def noneI : Int := 1152921504606846976
def sumT : List Int → Nat
  | [] => 0
  | c :: l => c.toNat + sumT l
theorem sumT_set {v : Int} : ∀ {cs : List Int} {k : Nat}, k < cs.length → 0 ≤ v → v < el cs k → sumT (cs.set k v) < sumT cs
  | [], k, h, _, _ => absurd h (by simp)
  | c :: l, 0, _, h0, h => by
    rw [el_zero] at h
    simp only [List.set_cons_zero, sumT]
    omega
  | c :: l, k + 1, hk, h0, h => by
    rw [el_succ] at h
    have := sumT_set (cs := l) (k := k) (by simpa using hk) h0 h
    simp only [List.set_cons_succ, sumT]
    omega
theorem el_setT {l : List Int} {q j : Nat} (hq : q < l.length) (x : Int) : el (l.set q x) j = if j = q then x else el l j := by
  by_cases h : j = q
  · subst h; rw [if_pos rfl]; simp [el, hq]
  · rw [if_neg h]; simp [el, List.getElem?_set, Ne.symm h]
structure CostT (l : List St) (x y : List Int) (free : Bool) (z : Int) (cs : List Int) : Prop where
  len : cs.length = l.length * (x.length + 1) * (y.length + 1)
  rng : ∀ k, k < cs.length → 0 ≤ el cs k ∧ el cs k ≤ noneI
  beg : 0 ≤ z → el cs (idx x.length y.length z.toNat 0 0) = 0
  run : ∀ k, k < cs.length → el cs k < noneI → 0 ≤ z ∧ ∃ n, Run (Edge l x y free) (idx x.length y.length z.toNat 0 0) n k (el cs k).toNat
def ClosedT (l : List St) (x y : List Int) (free : Bool) (cs : List Int) : Prop := ∀ k w k', k < cs.length → el cs k < noneI → Edge l x y free k w k' → el cs k' ≤ el cs k + (w : Int)
theorem CostT.relax {l : List St} {x y : List Int} {free : Bool} {z : Int} {cs : List Int} (h : CostT l x y free z cs) {k w k' : Nat} (hk : k < cs.length) (hc : el cs k < noneI) (he : Edge l x y free k w k') (hk' : k' < cs.length) (hl : el cs k + (w : Int) < el cs k') :
    CostT l x y free z (cs.set k' (el cs k + (w : Int))) ∧ sumT (cs.set k' (el cs k + (w : Int))) < sumT cs := by
  have h0 := (h.rng k hk).1
  have h1 := (h.rng k' hk').2
  refine ⟨⟨by rw [List.length_set]; exact h.len, fun j hj => ?_, fun hz => ?_, fun j hj hn => ?_⟩, sumT_set hk' (by omega) hl⟩
  · rw [List.length_set] at hj
    rw [el_setT hk']
    split
    · omega
    · exact h.rng j hj
  · have := h.beg hz
    rw [el_setT hk']
    split
    · rename_i e; rw [e] at this; omega
    · exact this
  · rw [List.length_set] at hj
    rw [el_setT hk'] at hn ⊢
    split
    · rename_i e
      subst e
      obtain ⟨hz, n, hr⟩ := h.run k hk hc
      refine ⟨hz, n + 1, ?_⟩
      have := hr.step he
      rwa [show (el cs k + (w : Int)).toNat = (el cs k).toNat + w by omega]
    · rename_i e
      rw [if_neg e] at hn
      exact h.run j hj hn
theorem el_replicateT {n k : Nat} {c : Int} (h : k < n) : el (List.replicate n c) k = c := by simp [el, h]
theorem CostT.none {l : List St} {x y : List Int} {free : Bool} {z : Int} (hz : z < 0) : CostT l x y free z (List.replicate (l.length * (x.length + 1) * (y.length + 1)) noneI) :=
  ⟨by simp, fun k hk => by rw [List.length_replicate] at hk; rw [el_replicateT hk]; unfold noneI; omega, fun h => by omega, fun k hk hn => by rw [List.length_replicate] at hk; rw [el_replicateT hk] at hn; omega⟩
theorem CostT.start {l : List St} {x y : List Int} {free : Bool} {z : Nat} (hz : z < l.length) : CostT l x y free z ((List.replicate (l.length * (x.length + 1) * (y.length + 1)) noneI).set (idx x.length y.length z 0 0) 0) := by
  have hlt : idx x.length y.length z 0 0 < (List.replicate (l.length * (x.length + 1) * (y.length + 1)) noneI).length := by rw [List.length_replicate]; exact idx_lt hz (by omega) (by omega)
  refine ⟨by simp, fun k hk => ?_, fun _ => ?_, fun k hk hn => ?_⟩
  · rw [List.length_set, List.length_replicate] at hk
    rw [el_setT hlt, el_replicateT hk]
    unfold noneI
    split <;> omega
  · rw [Int.toNat_natCast, el_setT hlt, if_pos rfl]
  · rw [List.length_set, List.length_replicate] at hk
    rw [el_setT hlt, el_replicateT hk] at hn ⊢
    split
    · rename_i e
      refine ⟨by omega, 0, ?_⟩
      rw [Int.toNat_natCast, e]
      exact .nil
    · rename_i e
      rw [if_neg e] at hn
      omega
/-- What the table tells at the end. -/
theorem CostT.told {l : List St} {x y : List Int} {free : Bool} {z : Nat} {cs : List Int} (h : CostT l x y free z cs) (hc : ClosedT l x y free cs) (hz : z < l.length) (hn : l.length ≤ 60) (hx : x.length ≤ 100) (hy : y.length ≤ 100)
    (hto : ∀ q, q < l.length → ∀ a ∈ (el l q).2, (∃ t : Nat, a.2.2.2 = (t : Int) ∧ t < l.length) ∧ a.2.2.1 ≤ 1000000000) {k : Nat} (hk : k < cs.length) :
    (el cs k < 1000000000000000 ∧ LeastP (fun c => ∃ n, Run (Edge l x y free) (idx x.length y.length z 0 0) n k c) (el cs k).toNat) ∨ (el cs k = noneI ∧ ∀ n c, ¬ Run (Edge l x y free) (idx x.length y.length z 0 0) n k c) := by
  have hs : idx x.length y.length z 0 0 < cs.length := by rw [h.len]; exact idx_lt hz (by omega) (by omega)
  have hE : ∀ k w j, Edge l x y free k w j → j < cs.length ∧ w ≤ 1000000000 := by
    rintro k w j ⟨q, i, j, a, t, i', j', hq, hi, hj, ha, ht, f1, f2, rfl, rfl, rfl⟩
    obtain ⟨⟨t', e1, e2⟩, e3⟩ := hto q hq a ha
    have : t = t' := by omega
    subst this
    exact ⟨by rw [h.len]; exact idx_lt e2 (fitN_le f1 hi) (fitF_le f2 hj), by omega⟩
  have hN : cs.length ≤ 612060 := by
    rw [h.len]
    have h1 : l.length * (x.length + 1) ≤ 60 * 101 := Nat.mul_le_mul hn (by omega)
    have h2 : l.length * (x.length + 1) * (y.length + 1) ≤ 60 * 101 * 101 := Nat.mul_le_mul h1 (by omega)
    omega
  have hbig : cs.length * 1000000000 < 1000000000000000 := by
    have : cs.length * 1000000000 ≤ 612060 * 1000000000 := Nat.mul_le_mul_right _ hN
    omega
  have hB : (noneI).toNat = 1152921504606846976 := rfl
  have hbeg : el cs (idx x.length y.length z 0 0) = 0 := by have := h.beg (by omega); rwa [Int.toNat_natCast] at this
  have key := table_told (E := Edge l x y free) (s := idx x.length y.length z 0 0) (T := fun k => if k < cs.length then (el cs k).toNat else 1152921504606846976) (B := 1152921504606846976) (N := cs.length) (W := 1000000000) hs hE (by omega)
    (by rw [if_pos hs, hbeg]; rfl)
    (fun k => by
      split
      · rename_i hk; have := (h.rng k hk).2; unfold noneI at this; omega
      · omega)
    (fun k w j hk e => by
      by_cases g : k < cs.length
      · rw [if_pos g] at hk ⊢
        have h1 := (h.rng k g).1
        have h2 := hc k w j g (by unfold noneI; omega) e
        have h3 := (h.rng j (hE _ _ _ e).1).1
        rw [if_pos (hE _ _ _ e).1]
        omega
      · rw [if_neg g] at hk; omega)
    (fun k hk => by
      by_cases g : k < cs.length
      · rw [if_pos g] at hk ⊢
        obtain ⟨_, n, hr⟩ := h.run k g (by have := (h.rng k g).1; unfold noneI; omega)
        rw [Int.toNat_natCast] at hr
        exact ⟨n, hr⟩
      · rw [if_neg g] at hk; omega) k
  simp only [if_pos hk] at key
  rcases key with ⟨h1, h2⟩ | ⟨h1, h2⟩
  · refine .inl ⟨?_, h2⟩
    obtain ⟨n, hr⟩ := h2.1
    obtain ⟨m, d, hm, hd⟩ := hr.short hs (fun k w j e => (hE k w j e).1)
    have h3 := hd.cost (W := 1000000000) (fun k w j e => (hE k w j e).2)
    have h4 := h2.2 d ⟨m, hd⟩
    have h5 : m * 1000000000 ≤ cs.length * 1000000000 := Nat.mul_le_mul_right _ (by omega)
    have h6 := (h.rng k hk).1
    omega
  · refine .inr ⟨?_, h2⟩
    have := (h.rng k hk).1
    unfold noneI
    omega
/-- The least at the words' ends. -/
def bstF (cs : List Int) (l : List St) (X Y : Nat) : Nat → Int
  | 0 => noneI
  | q + 1 => if el cs (idx X Y q X Y) ≠ noneI ∧ (el l q).1 ≠ 1000000001 ∧ el cs (idx X Y q X Y) + (el l q).1 < bstF cs l X Y q then el cs (idx X Y q X Y) + (el l q).1 else bstF cs l X Y q
/-- The cheapest of all, as the reference tells it. -/
def ChpAns (P : Nat → Prop) (b : Int) : Prop := (b = noneI ∧ ∀ c, ¬ P c) ∨ ∃ c : Nat, LeastP P c ∧ b = (c : Int) ∧ c < 1152921504606846976
theorem ChpAns.one {P : Nat → Prop} {b b' : Int} (h : ChpAns P b) (k : ChpAns P b') : b = b' := by
  rcases h with ⟨rfl, h⟩ | ⟨c, hc, rfl, _⟩ <;> rcases k with ⟨rfl, k⟩ | ⟨d, hd, rfl, _⟩
  · rfl
  · exact absurd hd.1 (h d)
  · exact absurd hc.1 (k c)
  · rw [hc.one hd]
theorem ChpAns.congr {P Q : Nat → Prop} (hPQ : ∀ c, P c ↔ Q c) {b : Int} (h : ChpAns P b) : ChpAns Q b := by
  have : P = Q := funext fun c => propext (hPQ c)
  rwa [← this]
theorem ChpAns.wgh {P : Nat → Prop} {b : Int} (h : ChpAns P b) : WghAns P (if b = noneI then 1000000001 else if 1000000000 < b then 0 else b) (if b = noneI then 0 else if 1000000000 < b then 4 else 0) := by
  rcases h with ⟨rfl, h⟩ | ⟨c, hc, rfl, hlt⟩
  · exact .inl ⟨h, by rw [if_pos rfl], by rw [if_pos rfl]⟩
  · have hne : ¬ (c : Int) = noneI := by unfold noneI; omega
    rw [if_neg hne, if_neg hne]
    by_cases g : (1000000000 : Int) < c
    · rw [if_pos g, if_pos g]
      exact .inr ⟨c, hc, .inr ⟨by omega, rfl, rfl⟩⟩
    · rw [if_neg g, if_neg g]
      exact .inr ⟨c, hc, .inl ⟨by omega, rfl, rfl⟩⟩
/-- The costs of all states together. -/
theorem bst_ans {cs : List Int} {l : List St} {X Y : Nat} {R : Nat → Nat → Prop} (hfin : ∀ q, q < l.length → (el l q).1 ≠ 1000000001 → 0 ≤ (el l q).1 ∧ (el l q).1 ≤ 1000000000)
    (h : ∀ q, q < l.length → (0 ≤ el cs (idx X Y q X Y) ∧ el cs (idx X Y q X Y) < 1000000000000000 ∧ LeastP (R q) (el cs (idx X Y q X Y)).toNat) ∨ (el cs (idx X Y q X Y) = noneI ∧ ∀ c, ¬ R q c)) :
    ∀ n, n ≤ l.length → ChpAns (fun c => ∃ q d, q < n ∧ R q d ∧ (el l q).1 ≠ 1000000001 ∧ c = d + (el l q).1.toNat) (bstF cs l X Y n) ∧ 0 ≤ bstF cs l X Y n := by
  intro n
  induction n with
  | zero => intro _; exact ⟨.inl ⟨rfl, fun c ⟨q, d, hq, _⟩ => by omega⟩, by simp [bstF, noneI]⟩
  | succ n ih =>
    intro hn
    obtain ⟨ih, ih0⟩ := ih (by omega)
    simp only [bstF]
    have old : ∀ {c}, (∃ q d, q < n ∧ R q d ∧ (el l q).1 ≠ 1000000001 ∧ c = d + (el l q).1.toNat) → ∃ q d, q < n + 1 ∧ R q d ∧ (el l q).1 ≠ 1000000001 ∧ c = d + (el l q).1.toNat := fun {c} ⟨q, d, hq, h⟩ => ⟨q, d, by omega, h⟩
    have same : (∀ d, R n d → (el l n).1 = 1000000001) → ChpAns (fun c => ∃ q d, q < n + 1 ∧ R q d ∧ (el l q).1 ≠ 1000000001 ∧ c = d + (el l q).1.toNat) (bstF cs l X Y n) := fun hno => by
      refine ih.congr fun c => ⟨old, fun ⟨q, d, hq, h1, h2, h3⟩ => ?_⟩
      by_cases e : q = n
      · subst e; exact absurd (hno d h1) h2
      · exact ⟨q, d, by omega, h1, h2, h3⟩
    rcases h n (by omega) with ⟨h0, h1, h2⟩ | ⟨h1, h2⟩
    · have hne : el cs (idx X Y n X Y) ≠ noneI := by unfold noneI; omega
      by_cases hf : (el l n).1 = 1000000001
      · rw [if_neg (by simp [hf])]
        exact ⟨same fun _ _ => hf, ih0⟩
      · obtain ⟨f0, f1⟩ := hfin n (by omega) hf
        have least : ∀ d, R n d → (el cs (idx X Y n X Y)).toNat ≤ d := h2.2
        by_cases hlt : el cs (idx X Y n X Y) + (el l n).1 < bstF cs l X Y n
        · rw [if_pos ⟨hne, hf, hlt⟩]
          refine ⟨.inr ⟨(el cs (idx X Y n X Y)).toNat + (el l n).1.toNat, ⟨⟨n, _, by omega, h2.1, hf, rfl⟩, ?_⟩, by omega, by omega⟩, by omega⟩
          rintro c ⟨q, d, hq, k1, k2, rfl⟩
          by_cases e : q = n
          · subst e; have := least d k1; omega
          · rcases ih with ⟨_, hno⟩ | ⟨b, hb, hbe, _⟩
            · exact absurd ⟨q, d, by omega, k1, k2, rfl⟩ (hno _)
            · have := hb.2 _ ⟨q, d, by omega, k1, k2, rfl⟩
              omega
        · rw [if_neg (fun g => hlt g.2.2)]
          refine ⟨?_, ih0⟩
          rcases ih with ⟨hb, hno⟩ | ⟨b, hb, hbe, hbl⟩
          · unfold noneI at hb; omega
          · refine .inr ⟨b, ⟨old hb.1, ?_⟩, hbe, hbl⟩
            rintro c ⟨q, d, hq, k1, k2, rfl⟩
            by_cases e : q = n
            · subst e; have := least d k1; omega
            · exact hb.2 _ ⟨q, d, by omega, k1, k2, rfl⟩
    · rw [if_neg (fun g => g.1 h1)]
      exact ⟨same fun d hd => absurd hd (h2 d), ih0⟩
end Go.Proofs.Ytnbiojjcebdljaa.Pl
