/- How far it is: runs along arcs, tables that are made in rounds (no program in sight). How far it is: what the tables tell, and the answers (no program in sight). How far it is: the tables at the start, and what one state's arcs tell (no program in sight). -/
import Derived.Test.YteaafghmkkejfaaJ15f
namespace Go.Proofs.Yteaafghmkkejfaa.Pl
set_option linter.unusedVariables false
set_option linter.unusedSimpArgs false
section
variable {E : Nat → Nat → Nat → Prop} {s : Nat}
/-- The places of a run and what it cost up to there. -/
theorem Run.parts {n k c : Nat} (h : Run E s n k c) : ∃ f g : Nat → Nat, f 0 = s ∧ f n = k ∧ g n = c ∧ (∀ i, i ≤ n → Run E s i (f i) (g i) ∧ ∃ d, Run E (f i) (n - i) k d ∧ g i + d = c) ∧ ∀ i j, i ≤ j → j ≤ n → g i ≤ g j := by
  induction h with
  | nil => exact ⟨fun _ => s, fun _ => 0, rfl, rfl, rfl, fun i hi => ⟨by rw [show i = 0 by omega]; exact .nil, 0, by rw [show i = 0 by omega]; exact .nil, rfl⟩, fun _ _ _ _ => Nat.le_refl _⟩
  | step h e ih =>
    rename_i n k c w j
    obtain ⟨f, g, f0, fn, gn, hf, hg⟩ := ih
    refine ⟨fun i => if i ≤ n then f i else j, fun i => if i ≤ n then g i else c + w, by simp [f0], if_neg (by omega), if_neg (by omega), fun i hi => ?_, fun a b hab hb => ?_⟩
    · by_cases q : i ≤ n
      · simp only [q, if_true]
        obtain ⟨h1, d, h2, h3⟩ := hf i q
        refine ⟨h1, d + w, ?_, by omega⟩
        have := h2.step e
        rwa [show n - i + 1 = n + 1 - i by omega] at this
      · obtain rfl : i = n + 1 := by omega
        simp only [q, if_false]
        exact ⟨h.step e, 0, by rw [Nat.sub_self]; exact .nil, by omega⟩
    · simp only
      by_cases qb : b ≤ n
      · rw [if_pos qb, if_pos (by omega)]; exact hg a b hab qb
      · rw [if_neg qb]
        by_cases qa : a ≤ n
        · rw [if_pos qa]
          have := hg a n qa (Nat.le_refl _)
          omega
        · rw [if_neg qa]; omega
/-- A run need not be longer than there are places, and costs no more then. -/
theorem Run.cheap {N : Nat} (hs : s < N) (hE : ∀ k w j, E k w j → j < N) : ∀ {n k c : Nat}, Run E s n k c → ∃ m d, m < N ∧ d ≤ c ∧ Run E s m k d := by
  have key : ∀ b n k c, n < b → Run E s n k c → ∃ m d, m < N ∧ d ≤ c ∧ Run E s m k d := by
    intro b
    induction b with
    | zero => intro n k c hn; omega
    | succ b ih =>
      intro n k c hn h
      by_cases g : n < N
      · exact ⟨n, c, g, Nat.le_refl _, h⟩
      · obtain ⟨f, gg, f0, fn, gn, hf, hg⟩ := h.parts
        have hin : ∀ i, i ≤ n → f i < N := fun i hi => by
          have h1 := (hf i hi).1
          generalize gg i = y2 at h1
          generalize f i = y at h1
          cases h1 with
          | nil => exact hs
          | step _ e => exact hE _ _ _ e
        obtain ⟨i, j, hij, hj, e⟩ := twice hin (by omega)
        have h1 := (hf i (by omega)).1
        obtain ⟨_, d', h2, h3⟩ := hf j hj
        rw [← e] at h2
        have h4 := hg i j (by omega) hj
        obtain ⟨m, d, hm, hd, hr⟩ := ih _ _ _ (by omega) (h1.trans h2)
        exact ⟨m, d, hm, by omega, hr⟩
  exact fun {n k c} h => key (n + 1) n k c (by omega) h
/-- The first step of a run. -/
theorem Run.head {n k c : Nat} (h : Run E s (n + 1) k c) : ∃ j w c', E s w j ∧ Run E j n k c' ∧ c = w + c' := by
  have key : ∀ {m k c}, Run E s m k c → ∀ n, m = n + 1 → ∃ j w c', E s w j ∧ Run E j n k c' ∧ c = w + c' := by
    intro m k c h
    induction h with
    | nil => intro n hn; omega
    | step h e ih =>
      rename_i m k c w j
      intro n hn
      obtain rfl : m = n := by omega
      cases m with
      | zero =>
        cases h with
        | nil => exact ⟨j, w, 0, e, .nil, by omega⟩
      | succ m =>
        obtain ⟨j', w', c', e', h', rfl⟩ := ih m rfl
        exact ⟨j', w', c' + w, e', h'.step e, by omega⟩
  exact key h n rfl
theorem Run.first {j w n k c : Nat} (e : E s w j) (h : Run E j n k c) : Run E s (n + 1) k (w + c) := by
  have h1 : Run E s 1 j (0 + w) := Run.nil.step e
  have := h1.trans h
  rwa [show 1 + n = n + 1 by omega, Nat.zero_add] at this
end
/-- One arc further. -/
def ArcE (l : List St) (k w j : Nat) : Prop := ∃ a ∈ (el l k).2, a.2.2.2 = (j : Int) ∧ w = a.2.2.1.toNat
/-- P13.1: from Start to a state. -/
def FarC (z : Int) (l : List St) (q c : Nat) : Prop := 0 ≤ z ∧ ∃ n, Run (ArcE l) z.toNat n q c
/-- P13.2: from a state to an end. -/
def EndC (l : List St) (q c : Nat) : Prop := ∃ n p d, Run (ArcE l) q n p d ∧ p < l.length ∧ (el l p).1 ≠ 1000000001 ∧ c = d + (el l p).1.toNat
structure FarT (z : Int) (l : List St) (cs : List Int) : Prop where
  len : cs.length = l.length
  rng : ∀ q, q < l.length → 0 ≤ el cs q ∧ el cs q ≤ noneI
  run : ∀ q, q < l.length → el cs q < noneI → FarC z l q (el cs q).toNat
structure EndT (l : List St) (cs : List Int) : Prop where
  len : cs.length = l.length
  rng : ∀ q, q < l.length → 0 ≤ el cs q ∧ el cs q ≤ noneI
  run : ∀ q, q < l.length → el cs q < noneI → EndC l q (el cs q).toNat
/-- All runs of at most k arcs are told. -/
def FarLe (z : Int) (l : List St) (k : Nat) (cs : List Int) : Prop := ∀ n q c, n ≤ k → 0 ≤ z → Run (ArcE l) z.toNat n q c → el cs q ≤ (c : Int)
/-- And those of one arc more that leave a state ahead of q last. -/
def FarTo (z : Int) (l : List St) (k q : Nat) (cs : List Int) : Prop := FarLe z l k cs ∧ ∀ n q' c w j, n ≤ k → q' < q → 0 ≤ z → Run (ArcE l) z.toNat n q' c → ArcE l q' w j → el cs j ≤ (c : Int) + (w : Int)
def EndLe (l : List St) (k : Nat) (cs : List Int) : Prop := ∀ n q p d, n ≤ k → Run (ArcE l) q n p d → p < l.length → (el l p).1 ≠ 1000000001 → el cs q ≤ (d : Int) + (el l p).1
def EndTo (l : List St) (k q : Nat) (cs : List Int) : Prop := EndLe l k cs ∧ ∀ n q' w j p d, n ≤ k → q' < q → ArcE l q' w j → Run (ArcE l) j n p d → p < l.length → (el l p).1 ≠ 1000000001 → el cs q' ≤ (w : Int) + (d : Int) + (el l p).1
theorem arcE_in {l : List St} {k w j : Nat} (h : ArcE l k w j) : k < l.length := by
  obtain ⟨a, ha, _⟩ := h
  exact el_in ha
theorem arcE_to {l : List St} (hto : ToIn l) {k w j : Nat} (h : ArcE l k w j) : j < l.length := by
  obtain ⟨a, ha, e, _⟩ := h
  obtain ⟨t, e1, e2⟩ := hto k (el_in ha) a ha
  omega
/-- A table where nothing is dearer tells at least as much. -/
theorem FarTo.less {z : Int} {l : List St} {k q : Nat} {cs ds : List Int} (h : FarTo z l k q cs) (hd : ∀ j, el ds j ≤ el cs j) : FarTo z l k q ds := ⟨fun n j c h1 h2 h3 => Int.le_trans (hd j) (h.1 n j c h1 h2 h3), fun n q' c w j h1 h2 h3 h4 h5 => Int.le_trans (hd j) (h.2 n q' c w j h1 h2 h3 h4 h5)⟩
theorem EndTo.less {l : List St} {k q : Nat} {cs ds : List Int} (h : EndTo l k q cs) (hd : ∀ j, el ds j ≤ el cs j) : EndTo l k q ds := ⟨fun n j p d h1 h2 h3 h4 => Int.le_trans (hd j) (h.1 n j p d h1 h2 h3 h4), fun n q' w j p d h1 h2 h3 h4 h5 h6 => Int.le_trans (hd q') (h.2 n q' w j p d h1 h2 h3 h4 h5 h6)⟩
theorem FarTo.round {z : Int} {l : List St} {k : Nat} {cs : List Int} (h : FarTo z l k l.length cs) : FarTo z l (k + 1) 0 cs := by
  refine ⟨fun n q c hn hz hr => ?_, fun n q' c w j _ hq => absurd hq (by omega)⟩
  by_cases g : n ≤ k
  · exact h.1 n q c g hz hr
  · obtain rfl : n = k + 1 := by omega
    cases hr with
    | step hr e =>
      have := h.2 k _ _ _ _ (Nat.le_refl _) (arcE_in e) hz hr e
      push_cast
      exact this
theorem EndTo.round {l : List St} {k : Nat} {cs : List Int} (h : EndTo l k l.length cs) : EndTo l (k + 1) 0 cs := by
  refine ⟨fun n q p d hn hr hp hf => ?_, fun n q' w j p d _ hq => absurd hq (by omega)⟩
  by_cases g : n ≤ k
  · exact h.1 n q p d g hr hp hf
  · obtain rfl : n = k + 1 := by omega
    obtain ⟨j, w, c', e, hr', rfl⟩ := hr.head
    have := h.2 k q w j p c' (Nat.le_refl _) (arcE_in e) e hr' hp hf
    push_cast
    exact this
/-- One state further: all its arcs are done. -/
theorem FarTo.next {z : Int} {l : List St} {k q : Nat} {cs : List Int} (h : FarTo z l k q cs) (hd : ∀ w j, ArcE l q w j → el cs q < noneI → el cs j ≤ el cs q + (w : Int)) (hb : ∀ n c, n ≤ k → 0 ≤ z → Run (ArcE l) z.toNat n q c → el cs q < noneI) : FarTo z l k (q + 1) cs := by
  refine ⟨h.1, fun n q' c w j hn' hq hz hr e => ?_⟩
  by_cases g : q' < q
  · exact h.2 n q' c w j hn' g hz hr e
  · obtain rfl : q' = q := by omega
    have h1 := hd w j e (hb n c hn' hz hr)
    have h2 := h.1 n q' c hn' hz hr
    omega
theorem EndTo.next {l : List St} {k q : Nat} {cs : List Int} (h : EndTo l k q cs) (hd : ∀ w j, ArcE l q w j → el cs j < noneI → el cs q ≤ el cs j + (w : Int)) (hb : ∀ n j p d, n ≤ k → Run (ArcE l) j n p d → p < l.length → (el l p).1 ≠ 1000000001 → el cs j < noneI) : EndTo l k (q + 1) cs := by
  refine ⟨h.1, fun n q' w j p d hn' hq e hr hp hf => ?_⟩
  by_cases g : q' < q
  · exact h.2 n q' w j p d hn' g e hr hp hf
  · obtain rfl : q' = q := by omega
    have h1 := hd w j e (hb n j p d hn' hr hp hf)
    have h2 := h.1 n j p d hn' hr hp hf
    omega
end Go.Proofs.Yteaafghmkkejfaa.Pl
namespace Go.Proofs.Yteaafghmkkejfaa.Pl
set_option linter.unusedVariables false
set_option linter.unusedSimpArgs false
theorem set_less {cs : List Int} {k : Nat} {c : Int} (hk : k < cs.length) (h : c < el cs k) (j : Nat) : el (cs.set k c) j ≤ el cs j := by
  rw [el_setT hk]
  split
  · rename_i e; rw [e]; omega
  · omega
theorem FarT.relax {z : Int} {l : List St} {cs : List Int} (h : FarT z l cs) {q j w : Nat} (e : ArcE l q w j) (hq : el cs q < noneI) (hj : j < l.length) (hlt : el cs q + (w : Int) < el cs j) : FarT z l (cs.set j (el cs q + (w : Int))) := by
  have hql := arcE_in e
  have hjl : j < cs.length := by rw [h.len]; exact hj
  have h0 := h.rng q hql
  refine ⟨by rw [List.length_set]; exact h.len, fun i hi => ?_, fun i hi hn => ?_⟩
  · rw [el_setT hjl]
    split
    · have := h.rng j hj; omega
    · exact h.rng i hi
  · rw [el_setT hjl] at hn ⊢
    split
    · rename_i e2
      subst e2
      obtain ⟨hz, n, hr⟩ := h.run q hql hq
      refine ⟨hz, n + 1, ?_⟩
      have := hr.step e
      rwa [show (el cs q + (w : Int)).toNat = (el cs q).toNat + w by omega]
    · rename_i e2
      rw [if_neg e2] at hn
      exact h.run i hi hn
theorem EndT.relax {l : List St} {cs : List Int} (h : EndT l cs) {q j w : Nat} (e : ArcE l q w j) (hj : j < l.length) (hn : el cs j < noneI) (hlt : el cs j + (w : Int) < el cs q) : EndT l (cs.set q (el cs j + (w : Int))) := by
  have hql := arcE_in e
  have hqc : q < cs.length := by rw [h.len]; exact hql
  have h0 := h.rng j hj
  refine ⟨by rw [List.length_set]; exact h.len, fun i hi => ?_, fun i hi hi2 => ?_⟩
  · rw [el_setT hqc]
    split
    · have := h.rng q hql; omega
    · exact h.rng i hi
  · rw [el_setT hqc] at hi2 ⊢
    split
    · rename_i e2
      subst e2
      obtain ⟨n, p, d, hr, hp, hf, hc⟩ := h.run j hj hn
      exact ⟨n + 1, p, w + d, Run.first e hr, hp, hf, by omega⟩
    · rename_i e2
      rw [if_neg e2] at hi2
      exact h.run i hi hi2
theorem arcE_small {m : Mc} (h : faultM m = 0) {k w j : Nat} (e : ArcE m.2 k w j) : j < m.2.length ∧ w ≤ 1000000000 := by
  obtain ⟨a, ha, e1, rfl⟩ := e
  have h1 := (right_parts h).2 _ (el_mem (el_in ha))
  simp only [stB, Bool.and_eq_true, List.all_eq_true] at h1
  have h2 := h1.2 _ ha
  simp only [arcB, inB, Bool.and_eq_true, decide_eq_true_eq] at h2
  omega
theorem run_small {m : Mc} (h : faultM m = 0) {s n k c : Nat} (hr : Run (ArcE m.2) s n k c) (hn : n ≤ 60) : c ≤ 60000000000 := by
  have h1 := hr.cost (W := 1000000000) (fun k w j e => (arcE_small h e).2)
  have h2 : n * 1000000000 ≤ 60 * 1000000000 := Nat.mul_le_mul_right _ hn
  omega
/-- What one place of a table tells. -/
def TldQ (P : Nat → Prop) (b : Int) : Prop := (b = noneI ∧ ∀ c, ¬ P c) ∨ ∃ c : Nat, LeastP P c ∧ b = (c : Int) ∧ c ≤ 100000000000
theorem FarT.told {m : Mc} {cs : List Int} (hf : faultM m = 0) (h : FarT m.1 m.2 cs) (hle : FarLe m.1 m.2 m.2.length cs) {q : Nat} (hq : q < m.2.length) : TldQ (FarC m.1 m.2 q) (el cs q) := by
  have h60 := (right_size (z := m.1) (l := m.2) hf).1
  obtain ⟨⟨hz1, hz2⟩, _⟩ := right_parts hf
  have low : ∀ c, FarC m.1 m.2 q c → ∃ d, d ≤ c ∧ d ≤ 60000000000 ∧ el cs q ≤ (d : Int) := by
    rintro c ⟨hz, n, hr⟩
    obtain ⟨n', d, hn, hd, hr'⟩ := hr.cheap (N := m.2.length) (by omega) (fun k w j e => (arcE_small hf e).1)
    exact ⟨d, hd, run_small hf hr' (by omega), hle n' q d (by omega) hz hr'⟩
  have hrng := h.rng q hq
  by_cases g : el cs q < noneI
  · have h1 := h.run q hq g
    obtain ⟨d, hd, hb, hl⟩ := low _ h1
    refine .inr ⟨(el cs q).toNat, ⟨h1, fun c hc => ?_⟩, by omega, by omega⟩
    obtain ⟨d', hd', _, hl'⟩ := low c hc
    omega
  · refine .inl ⟨by omega, fun c hc => ?_⟩
    obtain ⟨d, hd, hb, hl⟩ := low c hc
    unfold noneI at g
    omega
theorem EndT.told {m : Mc} {cs : List Int} (hf : faultM m = 0) (h : EndT m.2 cs) (hle : EndLe m.2 m.2.length cs) {q : Nat} (hq : q < m.2.length) : TldQ (EndC m.2 q) (el cs q) := by
  have h60 := (right_size (z := m.1) (l := m.2) hf).1
  have fin : ∀ p, p < m.2.length → (el m.2 p).1 ≠ 1000000001 → 0 ≤ (el m.2 p).1 ∧ (el m.2 p).1 ≤ 1000000000 := fun p hp hn => by
    have h1 := stB_fin ((right_parts hf).2 _ (el_mem hp))
    simp [finB, inB] at h1
    omega
  have low : ∀ c, EndC m.2 q c → ∃ d, d ≤ c ∧ d ≤ 61000000000 ∧ el cs q ≤ (d : Int) := by
    rintro c ⟨n, p, d, hr, hp, hn, rfl⟩
    obtain ⟨n', d', hn', hd, hr'⟩ := hr.cheap (N := m.2.length) hq (fun k w j e => (arcE_small hf e).1)
    have h1 := run_small hf hr' (by omega)
    have h2 := hle n' q p d' (by omega) hr' hp hn
    have h3 := fin p hp hn
    exact ⟨d' + (el m.2 p).1.toNat, by omega, by omega, by omega⟩
  have hrng := h.rng q hq
  by_cases g : el cs q < noneI
  · have h1 := h.run q hq g
    obtain ⟨d, hd, hb, hl⟩ := low _ h1
    refine .inr ⟨(el cs q).toNat, ⟨h1, fun c hc => ?_⟩, by omega, by omega⟩
    obtain ⟨d', hd', _, hl'⟩ := low c hc
    omega
  · refine .inl ⟨by omega, fun c hc => ?_⟩
    obtain ⟨d, hd, hb, hl⟩ := low c hc
    unfold noneI at g
    omega
/-- What is answered: all of them, or that one is too great. -/
def LstAns (P : Nat → Nat → Prop) (N : Nat) (vs : List Int) (e : Int) : Prop := (e = 0 ∧ vs.length = N ∧ ∀ q, q < N → WghAns (P q) (el vs q) 0) ∨ (e = 4 ∧ vs = [] ∧ ∃ q, q < N ∧ WghAns (P q) 0 4)
theorem LstAns.one {P : Nat → Nat → Prop} {N : Nat} {vs ws : List Int} {e f : Int} (h : LstAns P N vs e) (k : LstAns P N ws f) : vs = ws ∧ e = f := by
  rcases h with ⟨rfl, h1, h2⟩ | ⟨rfl, rfl, q, hq, h3⟩ <;> rcases k with ⟨rfl, k1, k2⟩ | ⟨rfl, rfl, p, hp, k3⟩
  · refine ⟨el_ext (by omega) fun j hj => ?_, rfl⟩
    exact ((h2 j (by omega)).one (k2 j (by omega))).1
  · exact absurd ((h2 p hp).one k3).2 (by decide)
  · exact absurd (h3.one (k2 q hq)).2 (by decide)
  · exact ⟨rfl, rfl⟩
def tldN (b : Int) : Int := if b = noneI then 1000000001 else if 1000000000 < b then 0 else b
def tldE (b : Int) : Int := if b = noneI then 0 else if 1000000000 < b then 4 else 0
theorem TldQ.wgh {P : Nat → Prop} {b : Int} (h : TldQ P b) : WghAns P (tldN b) (tldE b) := by
  have : ChpAns P b := by
    rcases h with h | ⟨c, hc, hb, hl⟩
    · exact .inl h
    · exact .inr ⟨c, hc, hb, by omega⟩
  exact this.wgh
/-- The first of a table that is too great, if there is one. -/
def badQ (cs : List Int) : Bool := cs.any fun b => decide (tldE b ≠ 0)
theorem lst_ok {P : Nat → Nat → Prop} {cs : List Int} (h : ∀ q, q < cs.length → TldQ (P q) (el cs q)) (hb : ∀ q, q < cs.length → tldE (el cs q) = 0) : LstAns P cs.length (cs.map tldN) 0 := by
  refine .inl ⟨rfl, by simp, fun q hq => ?_⟩
  have := (h q hq).wgh
  rw [hb q hq] at this
  rw [el_map hq]
  exact this
theorem lst_no {P : Nat → Nat → Prop} {cs : List Int} (h : ∀ q, q < cs.length → TldQ (P q) (el cs q)) {q : Nat} (hq : q < cs.length) (hb : tldE (el cs q) ≠ 0) : LstAns P cs.length [] 4 := by
  refine .inr ⟨rfl, rfl, q, hq, ?_⟩
  have h1 := (h q hq).wgh
  have h2 : tldE (el cs q) = 4 ∧ tldN (el cs q) = 0 := by
    unfold tldE at hb
    unfold tldE tldN
    split at hb
    · exact absurd rfl hb
    · rename_i e1
      split at hb
      · rename_i e2
        rw [if_neg e1, if_pos e2, if_neg e1, if_pos e2]
        exact ⟨rfl, rfl⟩
      · exact absurd rfl hb
  rw [h2.1, h2.2] at h1
  exact h1
/-- P13.3. -/
def LeaAns (m : Mc) (n e : Int) : Prop := ∃ vs f, LstAns (EndC m.2) m.2.length vs f ∧ ((f ≠ 0 ∧ n = 0 ∧ e = f) ∨ (f = 0 ∧ e = 0 ∧ n = if m.1 < 0 then 1000000001 else el vs m.1.toNat))
theorem LeaAns.one {m : Mc} {n e n' e' : Int} (h : LeaAns m n e) (k : LeaAns m n' e') : n = n' ∧ e = e' := by
  obtain ⟨vs, f, h1, h2⟩ := h
  obtain ⟨ws, g, k1, k2⟩ := k
  obtain ⟨rfl, rfl⟩ := h1.one k1
  rcases h2 with ⟨h2, rfl, rfl⟩ | ⟨h2, rfl, rfl⟩ <;> rcases k2 with ⟨k2, rfl, rfl⟩ | ⟨k2, rfl, rfl⟩
  · exact ⟨rfl, rfl⟩
  · exact absurd k2 h2
  · exact absurd h2 k2
  · exact ⟨rfl, rfl⟩
end Go.Proofs.Yteaafghmkkejfaa.Pl
namespace Go.Proofs.Yteaafghmkkejfaa.Pl
set_option linter.unusedVariables false
set_option linter.unusedSimpArgs false
theorem fin_small {m : Mc} (hf : faultM m = 0) {p : Nat} (hp : p < m.2.length) (hn : (el m.2 p).1 ≠ 1000000001) : 0 ≤ (el m.2 p).1 ∧ (el m.2 p).1 ≤ 1000000000 := by
  have h1 := stB_fin ((right_parts hf).2 _ (el_mem hp))
  simp [finB, inB] at h1
  omega
/-- What a state's end costs, in a table. -/
def endI (f : Int) : Int := if f = 1000000001 then noneI else f
theorem endT_start {m : Mc} (hf : faultM m = 0) {cs : List Int} (hl : cs.length = m.2.length) (h : ∀ q, q < m.2.length → el cs q = endI (el m.2 q).1) : EndT m.2 cs ∧ EndTo m.2 0 0 cs := by
  refine ⟨⟨hl, fun q hq => ?_, fun q hq hn => ?_⟩, fun n q p d hn hr hp hfi => ?_, fun n q' w j p d _ hq => absurd hq (by omega)⟩
  · rw [h q hq]
    unfold endI
    split
    · unfold noneI; omega
    · rename_i g
      have := fin_small hf hq g
      unfold noneI; omega
  · rw [h q hq] at hn ⊢
    unfold endI at hn ⊢
    split at hn
    · omega
    · rename_i g
      rw [if_neg g]
      exact ⟨0, q, 0, .nil, hq, g, by omega⟩
  · obtain rfl : n = 0 := by omega
    cases hr
    rw [h q hp]
    unfold endI
    rw [if_neg hfi]
    omega
theorem endHb {m : Mc} (hf : faultM m = 0) {k : Nat} {cs : List Int} (hk : k ≤ 60) (h : EndLe m.2 k cs) : ∀ n j p d, n ≤ k → Run (ArcE m.2) j n p d → p < m.2.length → (el m.2 p).1 ≠ 1000000001 → el cs j < noneI := fun n j p d hn hr hp hfi => by
  have h1 := h n j p d hn hr hp hfi
  have h2 := run_small hf hr (by omega)
  have h3 := fin_small hf hp hfi
  unfold noneI
  omega
/-- What the first t arcs of a state tell is told. -/
def ClsE (cs : List Int) (q : Nat) (ar : List Ar) (t : Nat) : Prop := ∀ s, s < t → ∀ j : Nat, (el ar s).2.2.2 = (j : Int) → el cs j < noneI → el cs q ≤ el cs j + ((el ar s).2.2.1.toNat : Int)
theorem ClsE.set {cs : List Int} {q t : Nat} {ar : List Ar} {c : Int} (h : ClsE cs q ar t) (hq : q < cs.length) (hlt : c < el cs q) : ClsE (cs.set q c) q ar t := by
  intro s hs j hj hn
  rw [el_setT hq, el_setT hq, if_pos rfl]
  rw [el_setT hq] at hn
  split
  · omega
  · rename_i g
    rw [if_neg g] at hn
    have := h s hs j hj hn
    omega
theorem ClsE.step {cs : List Int} {q t : Nat} {ar : List Ar} (h : ClsE cs q ar t) (hs : ∀ j : Nat, (el ar t).2.2.2 = (j : Int) → el cs j < noneI → el cs q ≤ el cs j + ((el ar t).2.2.1.toNat : Int)) : ClsE cs q ar (t + 1) := by
  intro s hs' j hj hn
  by_cases e : s = t
  · rw [e] at hj ⊢; exact hs j hj hn
  · exact h s (by omega) j hj hn
theorem ClsE.all {cs : List Int} {q : Nat} {l : List St} (h : ClsE cs q (el l q).2 (el l q).2.length) : ∀ w j, ArcE l q w j → el cs j < noneI → el cs q ≤ el cs j + (w : Int) := by
  rintro w j ⟨a, ha, h1, rfl⟩ hn
  obtain ⟨s, hs, e⟩ := List.getElem_of_mem ha
  have := h s hs j (by rw [el_get hs, e]; exact h1) hn
  rw [el_get hs, e] at this
  exact this
theorem farT_start {m : Mc} (hf : faultM m = 0) {cs : List Int} (hl : cs.length = m.2.length) (h : ∀ q, q < m.2.length → el cs q = if (q : Int) = m.1 then 0 else noneI) : FarT m.1 m.2 cs ∧ FarTo m.1 m.2 0 0 cs := by
  have hz := (right_parts hf).1
  refine ⟨⟨hl, fun q hq => ?_, fun q hq hn => ?_⟩, fun n q c hn h0 hr => ?_, fun n q' c w j _ hq => absurd hq (by omega)⟩
  · rw [h q hq]
    split <;> unfold noneI <;> omega
  · rw [h q hq] at hn ⊢
    split at hn
    · rename_i g
      rw [if_pos g]
      refine ⟨by omega, 0, ?_⟩
      rw [show m.1.toNat = q by omega]
      exact .nil
    · omega
  · obtain rfl : n = 0 := by omega
    cases hr
    rw [h _ (by omega), if_pos (by omega)]
    omega
theorem farHb {m : Mc} (hf : faultM m = 0) {k q : Nat} {cs : List Int} (hk : k ≤ 60) (h : FarLe m.1 m.2 k cs) : ∀ n c, n ≤ k → 0 ≤ m.1 → Run (ArcE m.2) m.1.toNat n q c → el cs q < noneI := fun n c hn hz hr => by
  have h1 := h n q c hn hz hr
  have h2 := run_small hf hr (by omega)
  unfold noneI
  omega
def ClsF (cs : List Int) (q : Nat) (ar : List Ar) (t : Nat) : Prop := ∀ s, s < t → ∀ j : Nat, (el ar s).2.2.2 = (j : Int) → el cs j ≤ el cs q + ((el ar s).2.2.1.toNat : Int)
theorem ClsF.set {cs : List Int} {q t j w : Nat} {ar : List Ar} (h : ClsF cs q ar t) (hj : j < cs.length) (hlt : el cs q + (w : Int) < el cs j) : ClsF (cs.set j (el cs q + (w : Int))) q ar t := by
  intro s hs i hi
  have h1 := h s hs i hi
  have h2 := set_less hj hlt i
  rw [el_setT hj (j := q), if_neg (fun e => by rw [e] at hlt; omega)]
  omega
theorem ClsF.step {cs : List Int} {q t : Nat} {ar : List Ar} (h : ClsF cs q ar t) (hs : ∀ j : Nat, (el ar t).2.2.2 = (j : Int) → el cs j ≤ el cs q + ((el ar t).2.2.1.toNat : Int)) : ClsF cs q ar (t + 1) := by
  intro s hs' j hj
  by_cases e : s = t
  · rw [e] at hj ⊢; exact hs j hj
  · exact h s (by omega) j hj
theorem ClsF.all {cs : List Int} {q : Nat} {l : List St} (h : ClsF cs q (el l q).2 (el l q).2.length) : ∀ w j, ArcE l q w j → el cs q < noneI → el cs j ≤ el cs q + (w : Int) := by
  rintro w j ⟨a, ha, h1, rfl⟩ hn
  obtain ⟨s, hs, e⟩ := List.getElem_of_mem ha
  have := h s hs j (by rw [el_get hs, e]; exact h1)
  rw [el_get hs, e] at this
  exact this
/-- What is answered for a machine, right or not. -/
def DstAns (m : Mc) (P : Nat → Nat → Prop) (vs : List Int) (ec : Int) : Prop := (faultM m ≠ 0 ∧ vs = [] ∧ ec = faultM m) ∨ (faultM m = 0 ∧ LstAns P m.2.length vs ec)
theorem DstAns.one {m : Mc} {P : Nat → Nat → Prop} {vs ws : List Int} {e f : Int} (h : DstAns m P vs e) (k : DstAns m P ws f) : vs = ws ∧ e = f := by
  rcases h with ⟨h0, h1, h2⟩ | ⟨h0, h1⟩ <;> rcases k with ⟨k0, k1, k2⟩ | ⟨k0, k1⟩
  · exact ⟨h1.trans k1.symm, h2.trans k2.symm⟩
  · exact absurd k0 h0
  · exact absurd h0 k0
  · exact h1.one k1
/-- What LeastPath answers, right or not. -/
def LpaAns (m : Mc) (x e : Int) : Prop := ∃ vs f, DstAns m (EndC m.2) vs f ∧ ((f ≠ 0 ∧ x = 0 ∧ e = f) ∨ (f = 0 ∧ e = 0 ∧ x = if m.1 < 0 then 1000000001 else el vs m.1.toNat))
theorem LpaAns.one {m : Mc} {x e x' e' : Int} (h : LpaAns m x e) (k : LpaAns m x' e') : x = x' ∧ e = e' := by
  obtain ⟨vs, f, h1, h2⟩ := h
  obtain ⟨ws, g, k1, k2⟩ := k
  obtain ⟨rfl, rfl⟩ := h1.one k1
  rcases h2 with ⟨h2, h3, h4⟩ | ⟨h2, h3, h4⟩ <;> rcases k2 with ⟨k2, k3, k4⟩ | ⟨k2, k3, k4⟩
  · exact ⟨h3.trans k3.symm, h4.trans k4.symm⟩
  · exact absurd k2 h2
  · exact absurd h2 k2
  · exact ⟨h4.trans k4.symm, h3.trans k3.symm⟩
theorem DstAns.len {m : Mc} {P : Nat → Nat → Prop} {vs : List Int} (h : DstAns m P vs 0) : vs.length = m.2.length ∧ -1 ≤ m.1 ∧ m.1 ≤ (m.2.length : Int) - 1 := by
  rcases h with ⟨h0, h1, h2⟩ | ⟨h0, h1⟩
  · exact absurd h2.symm h0
  · rcases h1 with ⟨_, h2, _⟩ | ⟨h2, _⟩
    · exact ⟨h2, (right_parts h0).1⟩
    · exact absurd h2 (by decide)
theorem DstAns.short {m : Mc} {P : Nat → Nat → Prop} {vs : List Int} {ec : Int} (h : DstAns m P vs ec) : vs.length ≤ m.2.length := by
  rcases h with ⟨_, h1, _⟩ | ⟨_, ⟨_, h1, _⟩ | ⟨_, h1, _⟩⟩
  · rw [h1]; exact Nat.zero_le _
  · omega
  · rw [h1]; exact Nat.zero_le _
end Go.Proofs.Yteaafghmkkejfaa.Pl
