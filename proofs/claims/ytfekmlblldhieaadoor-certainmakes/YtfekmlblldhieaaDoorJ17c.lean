/- How far it is: runs along arcs, tables that are made in rounds (no program in sight). How far it is: what the tables tell, and the answers (no program in sight). How far it is: the tables at the start, and what one state's arcs tell (no program in sight). The place of a number in a list; what trimming leaves (no program in sight). Weights that come as early as can be: machines with potentials (no program in sight). What trimming leaves: places, and that all that is left lies on a path (no program in sight). What trimming leaves: it is right, all of it lies on paths, trimmed again it stays (no program in sight). All that is told of a trimmed machine (no program in sight). Pushed machines: right, with the same ways, and an end can be had for 0 (no program in sight). -/
import Derived.Test.YtfekmlblldhieaaDoorJ17a
import Derived.Test.YtfekmlblldhieaaDoorPlainK
namespace Go.Proofs.YtfekmlblldhieaaDoor.Pl
set_option linter.unusedVariables false
set_option linter.unusedSimpArgs false
section
variable {E : Nat → Nat → Nat → Prop} {s : Nat}
/-- The places of a run and what it cost up to there. -/
theorem Run.parts {n k c : Nat} (h : Run E s n k c) : ∃ f g : Nat → Nat, f 0 = s ∧ f n = k ∧ g n = c ∧ (∀ i, i ≤ n → Run E s i (f i) (g i) ∧ ∃ d, Run E (f i) (n - i) k d ∧ g i + d = c) ∧ ∀ i j, i ≤ j → j ≤ n → g i ≤ g j := by
  induction h with
  | nil => exact ⟨fun _ => s, fun _ => 0, rfl, rfl, rfl, fun i hi => ⟨by rw [show i = 0 by omega]; exact .nil, 0, by rw [show i = 0 by omega]; exact .nil, rfl⟩, fun _ _ _ _ => Nat.le_refl _⟩
  | step h e ih =>
    rename_i n k c w j
    obtain ⟨f, g, f0, fn, gn, hf, hg⟩ := ih
    refine ⟨fun i => if i ≤ n then f i else j, fun i => if i ≤ n then g i else c + w, by simp [f0], if_neg (by omega), if_neg (by omega), fun i hi => ?_, fun a b hab hb => ?_⟩
    · by_cases q : i ≤ n
      · simp only [q, if_true]
        obtain ⟨h1, d, h2, h3⟩ := hf i q
        refine ⟨h1, d + w, ?_, by omega⟩
        have := h2.step e
        rwa [show n - i + 1 = n + 1 - i by omega] at this
      · obtain rfl : i = n + 1 := by omega
        simp only [q, if_false]
        exact ⟨h.step e, 0, by rw [Nat.sub_self]; exact .nil, by omega⟩
    · simp only
      by_cases qb : b ≤ n
      · rw [if_pos qb, if_pos (by omega)]; exact hg a b hab qb
      · rw [if_neg qb]
        by_cases qa : a ≤ n
        · rw [if_pos qa]
          have := hg a n qa (Nat.le_refl _)
          omega
        · rw [if_neg qa]; omega
/-- A run need not be longer than there are places, and costs no more then. -/
theorem Run.cheap {N : Nat} (hs : s < N) (hE : ∀ k w j, E k w j → j < N) : ∀ {n k c : Nat}, Run E s n k c → ∃ m d, m < N ∧ d ≤ c ∧ Run E s m k d := by
  have key : ∀ b n k c, n < b → Run E s n k c → ∃ m d, m < N ∧ d ≤ c ∧ Run E s m k d := by
    intro b
    induction b with
    | zero => intro n k c hn; omega
    | succ b ih =>
      intro n k c hn h
      by_cases g : n < N
      · exact ⟨n, c, g, Nat.le_refl _, h⟩
      · obtain ⟨f, gg, f0, fn, gn, hf, hg⟩ := h.parts
        have hin : ∀ i, i ≤ n → f i < N := fun i hi => by
          have h1 := (hf i hi).1
          generalize gg i = y2 at h1
          generalize f i = y at h1
          cases h1 with
          | nil => exact hs
          | step _ e => exact hE _ _ _ e
        obtain ⟨i, j, hij, hj, e⟩ := twice hin (by omega)
        have h1 := (hf i (by omega)).1
        obtain ⟨_, d', h2, h3⟩ := hf j hj
        rw [← e] at h2
        have h4 := hg i j (by omega) hj
        obtain ⟨m, d, hm, hd, hr⟩ := ih _ _ _ (by omega) (h1.trans h2)
        exact ⟨m, d, hm, by omega, hr⟩
  exact fun {n k c} h => key (n + 1) n k c (by omega) h
/-- The first step of a run. -/
theorem Run.head {n k c : Nat} (h : Run E s (n + 1) k c) : ∃ j w c', E s w j ∧ Run E j n k c' ∧ c = w + c' := by
  have key : ∀ {m k c}, Run E s m k c → ∀ n, m = n + 1 → ∃ j w c', E s w j ∧ Run E j n k c' ∧ c = w + c' := by
    intro m k c h
    induction h with
    | nil => intro n hn; omega
    | step h e ih =>
      rename_i m k c w j
      intro n hn
      obtain rfl : m = n := by omega
      cases m with
      | zero =>
        cases h with
        | nil => exact ⟨j, w, 0, e, .nil, by omega⟩
      | succ m =>
        obtain ⟨j', w', c', e', h', rfl⟩ := ih m rfl
        exact ⟨j', w', c' + w, e', h'.step e, by omega⟩
  exact key h n rfl
theorem Run.first {j w n k c : Nat} (e : E s w j) (h : Run E j n k c) : Run E s (n + 1) k (w + c) := by
  have h1 : Run E s 1 j (0 + w) := Run.nil.step e
  have := h1.trans h
  rwa [show 1 + n = n + 1 by omega, Nat.zero_add] at this
end
/-- One arc further. -/
def ArcE (l : List St) (k w j : Nat) : Prop := ∃ a ∈ (el l k).2, a.2.2.2 = (j : Int) ∧ w = a.2.2.1.toNat
/-- P13.1: from Start to a state. -/
def FarC (z : Int) (l : List St) (q c : Nat) : Prop := 0 ≤ z ∧ ∃ n, Run (ArcE l) z.toNat n q c
/-- P13.2: from a state to an end. -/
def EndC (l : List St) (q c : Nat) : Prop := ∃ n p d, Run (ArcE l) q n p d ∧ p < l.length ∧ (el l p).1 ≠ 1000000001 ∧ c = d + (el l p).1.toNat
structure FarT (z : Int) (l : List St) (cs : List Int) : Prop where
  len : cs.length = l.length
  rng : ∀ q, q < l.length → 0 ≤ el cs q ∧ el cs q ≤ noneI
  run : ∀ q, q < l.length → el cs q < noneI → FarC z l q (el cs q).toNat
structure EndT (l : List St) (cs : List Int) : Prop where
  len : cs.length = l.length
  rng : ∀ q, q < l.length → 0 ≤ el cs q ∧ el cs q ≤ noneI
  run : ∀ q, q < l.length → el cs q < noneI → EndC l q (el cs q).toNat
/-- All runs of at most k arcs are told. -/
def FarLe (z : Int) (l : List St) (k : Nat) (cs : List Int) : Prop := ∀ n q c, n ≤ k → 0 ≤ z → Run (ArcE l) z.toNat n q c → el cs q ≤ (c : Int)
/-- And those of one arc more that leave a state ahead of q last. -/
def FarTo (z : Int) (l : List St) (k q : Nat) (cs : List Int) : Prop := FarLe z l k cs ∧ ∀ n q' c w j, n ≤ k → q' < q → 0 ≤ z → Run (ArcE l) z.toNat n q' c → ArcE l q' w j → el cs j ≤ (c : Int) + (w : Int)
def EndLe (l : List St) (k : Nat) (cs : List Int) : Prop := ∀ n q p d, n ≤ k → Run (ArcE l) q n p d → p < l.length → (el l p).1 ≠ 1000000001 → el cs q ≤ (d : Int) + (el l p).1
def EndTo (l : List St) (k q : Nat) (cs : List Int) : Prop := EndLe l k cs ∧ ∀ n q' w j p d, n ≤ k → q' < q → ArcE l q' w j → Run (ArcE l) j n p d → p < l.length → (el l p).1 ≠ 1000000001 → el cs q' ≤ (w : Int) + (d : Int) + (el l p).1
theorem arcE_in {l : List St} {k w j : Nat} (h : ArcE l k w j) : k < l.length := by
  obtain ⟨a, ha, _⟩ := h
  exact el_in ha
theorem arcE_to {l : List St} (hto : ToIn l) {k w j : Nat} (h : ArcE l k w j) : j < l.length := by
  obtain ⟨a, ha, e, _⟩ := h
  obtain ⟨t, e1, e2⟩ := hto k (el_in ha) a ha
  omega
/-- A table where nothing is dearer tells at least as much. -/
theorem FarTo.less {z : Int} {l : List St} {k q : Nat} {cs ds : List Int} (h : FarTo z l k q cs) (hd : ∀ j, el ds j ≤ el cs j) : FarTo z l k q ds := ⟨fun n j c h1 h2 h3 => Int.le_trans (hd j) (h.1 n j c h1 h2 h3), fun n q' c w j h1 h2 h3 h4 h5 => Int.le_trans (hd j) (h.2 n q' c w j h1 h2 h3 h4 h5)⟩
theorem EndTo.less {l : List St} {k q : Nat} {cs ds : List Int} (h : EndTo l k q cs) (hd : ∀ j, el ds j ≤ el cs j) : EndTo l k q ds := ⟨fun n j p d h1 h2 h3 h4 => Int.le_trans (hd j) (h.1 n j p d h1 h2 h3 h4), fun n q' w j p d h1 h2 h3 h4 h5 h6 => Int.le_trans (hd q') (h.2 n q' w j p d h1 h2 h3 h4 h5 h6)⟩
theorem FarTo.round {z : Int} {l : List St} {k : Nat} {cs : List Int} (h : FarTo z l k l.length cs) : FarTo z l (k + 1) 0 cs := by
  refine ⟨fun n q c hn hz hr => ?_, fun n q' c w j _ hq => absurd hq (by omega)⟩
  by_cases g : n ≤ k
  · exact h.1 n q c g hz hr
  · obtain rfl : n = k + 1 := by omega
    cases hr with
    | step hr e =>
      have := h.2 k _ _ _ _ (Nat.le_refl _) (arcE_in e) hz hr e
      push_cast
      exact this
theorem EndTo.round {l : List St} {k : Nat} {cs : List Int} (h : EndTo l k l.length cs) : EndTo l (k + 1) 0 cs := by
  refine ⟨fun n q p d hn hr hp hf => ?_, fun n q' w j p d _ hq => absurd hq (by omega)⟩
  by_cases g : n ≤ k
  · exact h.1 n q p d g hr hp hf
  · obtain rfl : n = k + 1 := by omega
    obtain ⟨j, w, c', e, hr', rfl⟩ := hr.head
    have := h.2 k q w j p c' (Nat.le_refl _) (arcE_in e) e hr' hp hf
    push_cast
    exact this
/-- One state further: all its arcs are done. -/
theorem FarTo.next {z : Int} {l : List St} {k q : Nat} {cs : List Int} (h : FarTo z l k q cs) (hd : ∀ w j, ArcE l q w j → el cs q < noneI → el cs j ≤ el cs q + (w : Int)) (hb : ∀ n c, n ≤ k → 0 ≤ z → Run (ArcE l) z.toNat n q c → el cs q < noneI) : FarTo z l k (q + 1) cs := by
  refine ⟨h.1, fun n q' c w j hn' hq hz hr e => ?_⟩
  by_cases g : q' < q
  · exact h.2 n q' c w j hn' g hz hr e
  · obtain rfl : q' = q := by omega
    have h1 := hd w j e (hb n c hn' hz hr)
    have h2 := h.1 n q' c hn' hz hr
    omega
theorem EndTo.next {l : List St} {k q : Nat} {cs : List Int} (h : EndTo l k q cs) (hd : ∀ w j, ArcE l q w j → el cs j < noneI → el cs q ≤ el cs j + (w : Int)) (hb : ∀ n j p d, n ≤ k → Run (ArcE l) j n p d → p < l.length → (el l p).1 ≠ 1000000001 → el cs j < noneI) : EndTo l k (q + 1) cs := by
  refine ⟨h.1, fun n q' w j p d hn' hq e hr hp hf => ?_⟩
  by_cases g : q' < q
  · exact h.2 n q' w j p d hn' g e hr hp hf
  · obtain rfl : q' = q := by omega
    have h1 := hd w j e (hb n j p d hn' hr hp hf)
    have h2 := h.1 n j p d hn' hr hp hf
    omega
end Go.Proofs.YtfekmlblldhieaaDoor.Pl
namespace Go.Proofs.YtfekmlblldhieaaDoor.Pl
set_option linter.unusedVariables false
set_option linter.unusedSimpArgs false
theorem set_less {cs : List Int} {k : Nat} {c : Int} (hk : k < cs.length) (h : c < el cs k) (j : Nat) : el (cs.set k c) j ≤ el cs j := by
  rw [el_setT hk]
  split
  · rename_i e; rw [e]; omega
  · omega
theorem FarT.relax {z : Int} {l : List St} {cs : List Int} (h : FarT z l cs) {q j w : Nat} (e : ArcE l q w j) (hq : el cs q < noneI) (hj : j < l.length) (hlt : el cs q + (w : Int) < el cs j) : FarT z l (cs.set j (el cs q + (w : Int))) := by
  have hql := arcE_in e
  have hjl : j < cs.length := by rw [h.len]; exact hj
  have h0 := h.rng q hql
  refine ⟨by rw [List.length_set]; exact h.len, fun i hi => ?_, fun i hi hn => ?_⟩
  · rw [el_setT hjl]
    split
    · have := h.rng j hj; omega
    · exact h.rng i hi
  · rw [el_setT hjl] at hn ⊢
    split
    · rename_i e2
      subst e2
      obtain ⟨hz, n, hr⟩ := h.run q hql hq
      refine ⟨hz, n + 1, ?_⟩
      have := hr.step e
      rwa [show (el cs q + (w : Int)).toNat = (el cs q).toNat + w by omega]
    · rename_i e2
      rw [if_neg e2] at hn
      exact h.run i hi hn
theorem EndT.relax {l : List St} {cs : List Int} (h : EndT l cs) {q j w : Nat} (e : ArcE l q w j) (hj : j < l.length) (hn : el cs j < noneI) (hlt : el cs j + (w : Int) < el cs q) : EndT l (cs.set q (el cs j + (w : Int))) := by
  have hql := arcE_in e
  have hqc : q < cs.length := by rw [h.len]; exact hql
  have h0 := h.rng j hj
  refine ⟨by rw [List.length_set]; exact h.len, fun i hi => ?_, fun i hi hi2 => ?_⟩
  · rw [el_setT hqc]
    split
    · have := h.rng q hql; omega
    · exact h.rng i hi
  · rw [el_setT hqc] at hi2 ⊢
    split
    · rename_i e2
      subst e2
      obtain ⟨n, p, d, hr, hp, hf, hc⟩ := h.run j hj hn
      exact ⟨n + 1, p, w + d, Run.first e hr, hp, hf, by omega⟩
    · rename_i e2
      rw [if_neg e2] at hi2
      exact h.run i hi hi2
theorem arcE_small {m : Mc} (h : faultM m = 0) {k w j : Nat} (e : ArcE m.2 k w j) : j < m.2.length ∧ w ≤ 1000000000 := by
  obtain ⟨a, ha, e1, rfl⟩ := e
  have h1 := (right_parts h).2 _ (el_mem (el_in ha))
  simp only [stB, Bool.and_eq_true, List.all_eq_true] at h1
  have h2 := h1.2 _ ha
  simp only [arcB, inB, Bool.and_eq_true, decide_eq_true_eq] at h2
  omega
theorem run_small {m : Mc} (h : faultM m = 0) {s n k c : Nat} (hr : Run (ArcE m.2) s n k c) (hn : n ≤ 60) : c ≤ 60000000000 := by
  have h1 := hr.cost (W := 1000000000) (fun k w j e => (arcE_small h e).2)
  have h2 : n * 1000000000 ≤ 60 * 1000000000 := Nat.mul_le_mul_right _ hn
  omega
/-- What one place of a table tells. -/
def TldQ (P : Nat → Prop) (b : Int) : Prop := (b = noneI ∧ ∀ c, ¬ P c) ∨ ∃ c : Nat, LeastP P c ∧ b = (c : Int) ∧ c ≤ 100000000000
theorem FarT.told {m : Mc} {cs : List Int} (hf : faultM m = 0) (h : FarT m.1 m.2 cs) (hle : FarLe m.1 m.2 m.2.length cs) {q : Nat} (hq : q < m.2.length) : TldQ (FarC m.1 m.2 q) (el cs q) := by
  have h60 := (right_size (z := m.1) (l := m.2) hf).1
  obtain ⟨⟨hz1, hz2⟩, _⟩ := right_parts hf
  have low : ∀ c, FarC m.1 m.2 q c → ∃ d, d ≤ c ∧ d ≤ 60000000000 ∧ el cs q ≤ (d : Int) := by
    rintro c ⟨hz, n, hr⟩
    obtain ⟨n', d, hn, hd, hr'⟩ := hr.cheap (N := m.2.length) (by omega) (fun k w j e => (arcE_small hf e).1)
    exact ⟨d, hd, run_small hf hr' (by omega), hle n' q d (by omega) hz hr'⟩
  have hrng := h.rng q hq
  by_cases g : el cs q < noneI
  · have h1 := h.run q hq g
    obtain ⟨d, hd, hb, hl⟩ := low _ h1
    refine .inr ⟨(el cs q).toNat, ⟨h1, fun c hc => ?_⟩, by omega, by omega⟩
    obtain ⟨d', hd', _, hl'⟩ := low c hc
    omega
  · refine .inl ⟨by omega, fun c hc => ?_⟩
    obtain ⟨d, hd, hb, hl⟩ := low c hc
    unfold noneI at g
    omega
theorem EndT.told {m : Mc} {cs : List Int} (hf : faultM m = 0) (h : EndT m.2 cs) (hle : EndLe m.2 m.2.length cs) {q : Nat} (hq : q < m.2.length) : TldQ (EndC m.2 q) (el cs q) := by
  have h60 := (right_size (z := m.1) (l := m.2) hf).1
  have fin : ∀ p, p < m.2.length → (el m.2 p).1 ≠ 1000000001 → 0 ≤ (el m.2 p).1 ∧ (el m.2 p).1 ≤ 1000000000 := fun p hp hn => by
    have h1 := stB_fin ((right_parts hf).2 _ (el_mem hp))
    simp [finB, inB] at h1
    omega
  have low : ∀ c, EndC m.2 q c → ∃ d, d ≤ c ∧ d ≤ 61000000000 ∧ el cs q ≤ (d : Int) := by
    rintro c ⟨n, p, d, hr, hp, hn, rfl⟩
    obtain ⟨n', d', hn', hd, hr'⟩ := hr.cheap (N := m.2.length) hq (fun k w j e => (arcE_small hf e).1)
    have h1 := run_small hf hr' (by omega)
    have h2 := hle n' q p d' (by omega) hr' hp hn
    have h3 := fin p hp hn
    exact ⟨d' + (el m.2 p).1.toNat, by omega, by omega, by omega⟩
  have hrng := h.rng q hq
  by_cases g : el cs q < noneI
  · have h1 := h.run q hq g
    obtain ⟨d, hd, hb, hl⟩ := low _ h1
    refine .inr ⟨(el cs q).toNat, ⟨h1, fun c hc => ?_⟩, by omega, by omega⟩
    obtain ⟨d', hd', _, hl'⟩ := low c hc
    omega
  · refine .inl ⟨by omega, fun c hc => ?_⟩
    obtain ⟨d, hd, hb, hl⟩ := low c hc
    unfold noneI at g
    omega
/-- What is answered: all of them, or that one is too great. -/
def LstAns (P : Nat → Nat → Prop) (N : Nat) (vs : List Int) (e : Int) : Prop := (e = 0 ∧ vs.length = N ∧ ∀ q, q < N → WghAns (P q) (el vs q) 0) ∨ (e = 4 ∧ vs = [] ∧ ∃ q, q < N ∧ WghAns (P q) 0 4)
theorem LstAns.one {P : Nat → Nat → Prop} {N : Nat} {vs ws : List Int} {e f : Int} (h : LstAns P N vs e) (k : LstAns P N ws f) : vs = ws ∧ e = f := by
  rcases h with ⟨rfl, h1, h2⟩ | ⟨rfl, rfl, q, hq, h3⟩ <;> rcases k with ⟨rfl, k1, k2⟩ | ⟨rfl, rfl, p, hp, k3⟩
  · refine ⟨el_ext (by omega) fun j hj => ?_, rfl⟩
    exact ((h2 j (by omega)).one (k2 j (by omega))).1
  · exact absurd ((h2 p hp).one k3).2 (by decide)
  · exact absurd (h3.one (k2 q hq)).2 (by decide)
  · exact ⟨rfl, rfl⟩
def tldN (b : Int) : Int := if b = noneI then 1000000001 else if 1000000000 < b then 0 else b
def tldE (b : Int) : Int := if b = noneI then 0 else if 1000000000 < b then 4 else 0
theorem TldQ.wgh {P : Nat → Prop} {b : Int} (h : TldQ P b) : WghAns P (tldN b) (tldE b) := by
  have : ChpAns P b := by
    rcases h with h | ⟨c, hc, hb, hl⟩
    · exact .inl h
    · exact .inr ⟨c, hc, hb, by omega⟩
  exact this.wgh
/-- The first of a table that is too great, if there is one. -/
def badQ (cs : List Int) : Bool := cs.any fun b => decide (tldE b ≠ 0)
theorem lst_ok {P : Nat → Nat → Prop} {cs : List Int} (h : ∀ q, q < cs.length → TldQ (P q) (el cs q)) (hb : ∀ q, q < cs.length → tldE (el cs q) = 0) : LstAns P cs.length (cs.map tldN) 0 := by
  refine .inl ⟨rfl, by simp, fun q hq => ?_⟩
  have := (h q hq).wgh
  rw [hb q hq] at this
  rw [el_map hq]
  exact this
theorem lst_no {P : Nat → Nat → Prop} {cs : List Int} (h : ∀ q, q < cs.length → TldQ (P q) (el cs q)) {q : Nat} (hq : q < cs.length) (hb : tldE (el cs q) ≠ 0) : LstAns P cs.length [] 4 := by
  refine .inr ⟨rfl, rfl, q, hq, ?_⟩
  have h1 := (h q hq).wgh
  have h2 : tldE (el cs q) = 4 ∧ tldN (el cs q) = 0 := by
    unfold tldE at hb
    unfold tldE tldN
    split at hb
    · exact absurd rfl hb
    · rename_i e1
      split at hb
      · rename_i e2
        rw [if_neg e1, if_pos e2, if_neg e1, if_pos e2]
        exact ⟨rfl, rfl⟩
      · exact absurd rfl hb
  rw [h2.1, h2.2] at h1
  exact h1
/-- P13.3. -/
def LeaAns (m : Mc) (n e : Int) : Prop := ∃ vs f, LstAns (EndC m.2) m.2.length vs f ∧ ((f ≠ 0 ∧ n = 0 ∧ e = f) ∨ (f = 0 ∧ e = 0 ∧ n = if m.1 < 0 then 1000000001 else el vs m.1.toNat))
theorem LeaAns.one {m : Mc} {n e n' e' : Int} (h : LeaAns m n e) (k : LeaAns m n' e') : n = n' ∧ e = e' := by
  obtain ⟨vs, f, h1, h2⟩ := h
  obtain ⟨ws, g, k1, k2⟩ := k
  obtain ⟨rfl, rfl⟩ := h1.one k1
  rcases h2 with ⟨h2, rfl, rfl⟩ | ⟨h2, rfl, rfl⟩ <;> rcases k2 with ⟨k2, rfl, rfl⟩ | ⟨k2, rfl, rfl⟩
  · exact ⟨rfl, rfl⟩
  · exact absurd k2 h2
  · exact absurd h2 k2
  · exact ⟨rfl, rfl⟩
end Go.Proofs.YtfekmlblldhieaaDoor.Pl
namespace Go.Proofs.YtfekmlblldhieaaDoor.Pl
set_option linter.unusedVariables false
set_option linter.unusedSimpArgs false
theorem fin_small {m : Mc} (hf : faultM m = 0) {p : Nat} (hp : p < m.2.length) (hn : (el m.2 p).1 ≠ 1000000001) : 0 ≤ (el m.2 p).1 ∧ (el m.2 p).1 ≤ 1000000000 := by
  have h1 := stB_fin ((right_parts hf).2 _ (el_mem hp))
  simp [finB, inB] at h1
  omega
/-- What a state's end costs, in a table. -/
def endI (f : Int) : Int := if f = 1000000001 then noneI else f
theorem endT_start {m : Mc} (hf : faultM m = 0) {cs : List Int} (hl : cs.length = m.2.length) (h : ∀ q, q < m.2.length → el cs q = endI (el m.2 q).1) : EndT m.2 cs ∧ EndTo m.2 0 0 cs := by
  refine ⟨⟨hl, fun q hq => ?_, fun q hq hn => ?_⟩, fun n q p d hn hr hp hfi => ?_, fun n q' w j p d _ hq => absurd hq (by omega)⟩
  · rw [h q hq]
    unfold endI
    split
    · unfold noneI; omega
    · rename_i g
      have := fin_small hf hq g
      unfold noneI; omega
  · rw [h q hq] at hn ⊢
    unfold endI at hn ⊢
    split at hn
    · omega
    · rename_i g
      rw [if_neg g]
      exact ⟨0, q, 0, .nil, hq, g, by omega⟩
  · obtain rfl : n = 0 := by omega
    cases hr
    rw [h q hp]
    unfold endI
    rw [if_neg hfi]
    omega
theorem endHb {m : Mc} (hf : faultM m = 0) {k : Nat} {cs : List Int} (hk : k ≤ 60) (h : EndLe m.2 k cs) : ∀ n j p d, n ≤ k → Run (ArcE m.2) j n p d → p < m.2.length → (el m.2 p).1 ≠ 1000000001 → el cs j < noneI := fun n j p d hn hr hp hfi => by
  have h1 := h n j p d hn hr hp hfi
  have h2 := run_small hf hr (by omega)
  have h3 := fin_small hf hp hfi
  unfold noneI
  omega
/-- What the first t arcs of a state tell is told. -/
def ClsE (cs : List Int) (q : Nat) (ar : List Ar) (t : Nat) : Prop := ∀ s, s < t → ∀ j : Nat, (el ar s).2.2.2 = (j : Int) → el cs j < noneI → el cs q ≤ el cs j + ((el ar s).2.2.1.toNat : Int)
theorem ClsE.set {cs : List Int} {q t : Nat} {ar : List Ar} {c : Int} (h : ClsE cs q ar t) (hq : q < cs.length) (hlt : c < el cs q) : ClsE (cs.set q c) q ar t := by
  intro s hs j hj hn
  rw [el_setT hq, el_setT hq, if_pos rfl]
  rw [el_setT hq] at hn
  split
  · omega
  · rename_i g
    rw [if_neg g] at hn
    have := h s hs j hj hn
    omega
theorem ClsE.step {cs : List Int} {q t : Nat} {ar : List Ar} (h : ClsE cs q ar t) (hs : ∀ j : Nat, (el ar t).2.2.2 = (j : Int) → el cs j < noneI → el cs q ≤ el cs j + ((el ar t).2.2.1.toNat : Int)) : ClsE cs q ar (t + 1) := by
  intro s hs' j hj hn
  by_cases e : s = t
  · rw [e] at hj ⊢; exact hs j hj hn
  · exact h s (by omega) j hj hn
theorem ClsE.all {cs : List Int} {q : Nat} {l : List St} (h : ClsE cs q (el l q).2 (el l q).2.length) : ∀ w j, ArcE l q w j → el cs j < noneI → el cs q ≤ el cs j + (w : Int) := by
  rintro w j ⟨a, ha, h1, rfl⟩ hn
  obtain ⟨s, hs, e⟩ := List.getElem_of_mem ha
  have := h s hs j (by rw [el_get hs, e]; exact h1) hn
  rw [el_get hs, e] at this
  exact this
theorem farT_start {m : Mc} (hf : faultM m = 0) {cs : List Int} (hl : cs.length = m.2.length) (h : ∀ q, q < m.2.length → el cs q = if (q : Int) = m.1 then 0 else noneI) : FarT m.1 m.2 cs ∧ FarTo m.1 m.2 0 0 cs := by
  have hz := (right_parts hf).1
  refine ⟨⟨hl, fun q hq => ?_, fun q hq hn => ?_⟩, fun n q c hn h0 hr => ?_, fun n q' c w j _ hq => absurd hq (by omega)⟩
  · rw [h q hq]
    split <;> unfold noneI <;> omega
  · rw [h q hq] at hn ⊢
    split at hn
    · rename_i g
      rw [if_pos g]
      refine ⟨by omega, 0, ?_⟩
      rw [show m.1.toNat = q by omega]
      exact .nil
    · omega
  · obtain rfl : n = 0 := by omega
    cases hr
    rw [h _ (by omega), if_pos (by omega)]
    omega
theorem farHb {m : Mc} (hf : faultM m = 0) {k q : Nat} {cs : List Int} (hk : k ≤ 60) (h : FarLe m.1 m.2 k cs) : ∀ n c, n ≤ k → 0 ≤ m.1 → Run (ArcE m.2) m.1.toNat n q c → el cs q < noneI := fun n c hn hz hr => by
  have h1 := h n q c hn hz hr
  have h2 := run_small hf hr (by omega)
  unfold noneI
  omega
def ClsF (cs : List Int) (q : Nat) (ar : List Ar) (t : Nat) : Prop := ∀ s, s < t → ∀ j : Nat, (el ar s).2.2.2 = (j : Int) → el cs j ≤ el cs q + ((el ar s).2.2.1.toNat : Int)
theorem ClsF.set {cs : List Int} {q t j w : Nat} {ar : List Ar} (h : ClsF cs q ar t) (hj : j < cs.length) (hlt : el cs q + (w : Int) < el cs j) : ClsF (cs.set j (el cs q + (w : Int))) q ar t := by
  intro s hs i hi
  have h1 := h s hs i hi
  have h2 := set_less hj hlt i
  rw [el_setT hj (j := q), if_neg (fun e => by rw [e] at hlt; omega)]
  omega
theorem ClsF.step {cs : List Int} {q t : Nat} {ar : List Ar} (h : ClsF cs q ar t) (hs : ∀ j : Nat, (el ar t).2.2.2 = (j : Int) → el cs j ≤ el cs q + ((el ar t).2.2.1.toNat : Int)) : ClsF cs q ar (t + 1) := by
  intro s hs' j hj
  by_cases e : s = t
  · rw [e] at hj ⊢; exact hs j hj
  · exact h s (by omega) j hj
theorem ClsF.all {cs : List Int} {q : Nat} {l : List St} (h : ClsF cs q (el l q).2 (el l q).2.length) : ∀ w j, ArcE l q w j → el cs q < noneI → el cs j ≤ el cs q + (w : Int) := by
  rintro w j ⟨a, ha, h1, rfl⟩ hn
  obtain ⟨s, hs, e⟩ := List.getElem_of_mem ha
  have := h s hs j (by rw [el_get hs, e]; exact h1)
  rw [el_get hs, e] at this
  exact this
/-- What is answered for a machine, right or not. -/
def DstAns (m : Mc) (P : Nat → Nat → Prop) (vs : List Int) (ec : Int) : Prop := (faultM m ≠ 0 ∧ vs = [] ∧ ec = faultM m) ∨ (faultM m = 0 ∧ LstAns P m.2.length vs ec)
theorem DstAns.one {m : Mc} {P : Nat → Nat → Prop} {vs ws : List Int} {e f : Int} (h : DstAns m P vs e) (k : DstAns m P ws f) : vs = ws ∧ e = f := by
  rcases h with ⟨h0, h1, h2⟩ | ⟨h0, h1⟩ <;> rcases k with ⟨k0, k1, k2⟩ | ⟨k0, k1⟩
  · exact ⟨h1.trans k1.symm, h2.trans k2.symm⟩
  · exact absurd k0 h0
  · exact absurd h0 k0
  · exact h1.one k1
/-- What LeastPath answers, right or not. -/
def LpaAns (m : Mc) (x e : Int) : Prop := ∃ vs f, DstAns m (EndC m.2) vs f ∧ ((f ≠ 0 ∧ x = 0 ∧ e = f) ∨ (f = 0 ∧ e = 0 ∧ x = if m.1 < 0 then 1000000001 else el vs m.1.toNat))
theorem LpaAns.one {m : Mc} {x e x' e' : Int} (h : LpaAns m x e) (k : LpaAns m x' e') : x = x' ∧ e = e' := by
  obtain ⟨vs, f, h1, h2⟩ := h
  obtain ⟨ws, g, k1, k2⟩ := k
  obtain ⟨rfl, rfl⟩ := h1.one k1
  rcases h2 with ⟨h2, h3, h4⟩ | ⟨h2, h3, h4⟩ <;> rcases k2 with ⟨k2, k3, k4⟩ | ⟨k2, k3, k4⟩
  · exact ⟨h3.trans k3.symm, h4.trans k4.symm⟩
  · exact absurd k2 h2
  · exact absurd h2 k2
  · exact ⟨h4.trans k4.symm, h3.trans k3.symm⟩
theorem DstAns.len {m : Mc} {P : Nat → Nat → Prop} {vs : List Int} (h : DstAns m P vs 0) : vs.length = m.2.length ∧ -1 ≤ m.1 ∧ m.1 ≤ (m.2.length : Int) - 1 := by
  rcases h with ⟨h0, h1, h2⟩ | ⟨h0, h1⟩
  · exact absurd h2.symm h0
  · rcases h1 with ⟨_, h2, _⟩ | ⟨h2, _⟩
    · exact ⟨h2, (right_parts h0).1⟩
    · exact absurd h2 (by decide)
theorem DstAns.short {m : Mc} {P : Nat → Nat → Prop} {vs : List Int} {ec : Int} (h : DstAns m P vs ec) : vs.length ≤ m.2.length := by
  rcases h with ⟨_, h1, _⟩ | ⟨_, ⟨_, h1, _⟩ | ⟨_, h1, _⟩⟩
  · rw [h1]; exact Nat.zero_le _
  · omega
  · rw [h1]; exact Nat.zero_le _
end Go.Proofs.YtfekmlblldhieaaDoor.Pl
namespace Go.Proofs.YtfekmlblldhieaaDoor.Pl
/-- The place of x in a list; -1: none. -/
def placeL' (x : Int) : Nat → List Int → Int
  | _, [] => -1
  | i, k :: l => if k = x then (i : Int) else placeL' x (i + 1) l
def placeI (ks : List Int) (x : Int) : Int := placeL' x 0 ks
theorem placeL'_at {x : Int} {ks : List Int} {i k : Nat} (hk : k < ks.length) (h : ∀ j, j < k → el ks j ≠ x) (e : el ks k = x) : placeL' x i ks = ((i + k : Nat) : Int) := by
  induction ks generalizing i k with
  | nil => simp at hk
  | cons y l ih =>
    cases k with
    | zero => rw [el_zero] at e; simp [placeL', e]
    | succ k =>
      have h0 := h 0 (by omega)
      rw [el_zero] at h0
      rw [placeL', if_neg h0, ih (k := k) (by simpa using hk) (fun j hj => by have := h (j + 1) (by omega); rwa [el_succ] at this) (by rwa [el_succ] at e)]
      congr 1; omega
theorem placeL'_none {x : Int} {ks : List Int} {i : Nat} (h : ∀ j, j < ks.length → el ks j ≠ x) : placeL' x i ks = -1 := by
  induction ks generalizing i with
  | nil => rfl
  | cons y l ih =>
    have h0 := h 0 (by simp)
    rw [el_zero] at h0
    rw [placeL', if_neg h0]
    exact ih (fun j hj => by have := h (j + 1) (by simpa using hj); rwa [el_succ] at this)
theorem placeI_at {x : Int} {ks : List Int} {k : Nat} (hk : k < ks.length) (h : ∀ j, j < k → el ks j ≠ x) (e : el ks k = x) : placeI ks x = (k : Int) := by
  have := placeL'_at (i := 0) hk h e
  rwa [Nat.zero_add] at this
theorem placeI_none {x : Int} {ks : List Int} (h : ∀ j, j < ks.length → el ks j ≠ x) : placeI ks x = -1 := placeL'_none h
/-- The states that are left. -/
def keptL (a b : List Bool) (n : Nat) : List Int := ((List.range n).filter fun q => el a q && el b q).map fun q : Nat => (q : Int)
theorem keptL_succ (a b : List Bool) (n : Nat) : keptL a b (n + 1) = keptL a b n ++ (if (el a n && el b n) = true then [(n : Int)] else []) := by
  unfold keptL
  rw [List.range_succ, List.filter_append, List.map_append]
  cases h : (el a n && el b n) <;> simp [h]
theorem keptL_le (a b : List Bool) (n : Nat) : (keptL a b n).length ≤ n := by
  unfold keptL
  rw [List.length_map]
  exact Nat.le_trans (List.length_filter_le _ _) (by simp)
theorem keptL_mem {a b : List Bool} {n : Nat} {x : Int} (h : x ∈ keptL a b n) : ∃ q : Nat, x = (q : Int) ∧ q < n ∧ el a q = true ∧ el b q = true := by
  unfold keptL at h
  simp only [List.mem_map, List.mem_filter, List.mem_range, Bool.and_eq_true] at h
  obtain ⟨q, ⟨h1, h2, h3⟩, rfl⟩ := h
  exact ⟨q, rfl, h1, h2, h3⟩
def turnA (ks : List Int) (c : Ar) : Ar := (c.1, c.2.1, c.2.2.1, placeI ks c.2.2.2)
/-- The arcs that are left. -/
def trimA (ks : List Int) (l : List Ar) : List Ar := (l.map (turnA ks)).filter fun c => decide (0 ≤ c.2.2.2)
theorem trimA_take {ks : List Int} {l : List Ar} {k : Nat} (h : k < l.length) : trimA ks (l.take (k + 1)) = trimA ks (l.take k) ++ (if 0 ≤ placeI ks (el l k).2.2.2 then [turnA ks (el l k)] else []) := by
  unfold trimA
  rw [take_el h, List.map_append, List.filter_append]
  congr 1
  by_cases e : 0 ≤ placeI ks (el l k).2.2.2 <;> simp [e, turnA]
theorem trimA_le (ks : List Int) (l : List Ar) : (trimA ks l).length ≤ l.length := by
  unfold trimA
  exact Nat.le_trans (List.length_filter_le _ _) (by simp)
def trimS (l : List St) (ks : List Int) (x : Int) : St := ((el l x.toNat).1, trimA ks (el l x.toNat).2)
def trimM (z : Int) (l : List St) (ks : List Int) : Mc := (placeI ks z, ks.map (trimS l ks))
end Go.Proofs.YtfekmlblldhieaaDoor.Pl
namespace Go.Proofs.YtfekmlblldhieaaDoor.Pl
set_option linter.unusedVariables false
set_option linter.unusedSimpArgs false
/-- P15.1: an arc's Weight is more by the Ends of its To, less by the Ends of its state. -/
def pshA (vs : List Int) (q : Nat) (a : Ar) : Ar := (a.1, a.2.1, a.2.2.1 + el vs a.2.2.2.toNat - el vs q, a.2.2.2)
def pshF (vs : List Int) (q : Nat) (f : Int) : Int := if f = 1000000001 then 1000000001 else f - el vs q
def pshS (vs : List Int) (l : List St) (q : Nat) : St := (pshF vs q (el l q).1, (el l q).2.map (pshA vs q))
def pshL (vs : List Int) (l : List St) : List St := (List.range l.length).map (pshS vs l)
def pshM (vs : List Int) (m : Mc) : Mc := (m.1, pshL vs m.2)
def pshT (vs : List Int) (m : Mc) : Int := if m.1 < 0 then 0 else el vs m.1.toNat
/-- A Weight would be above MaxWeight. -/
def pshO (vs : List Int) (l : List St) : Bool := (List.range l.length).any fun q => (el l q).2.any fun a => decide (1000000000 < (pshA vs q a).2.2.1)
theorem psh_length (vs : List Int) (l : List St) : (pshL vs l).length = l.length := by simp [pshL]
theorem psh_el {vs : List Int} {l : List St} {q : Nat} (h : q < l.length) : el (pshL vs l) q = pshS vs l q := el_range_map _ h
/-- What is answered. -/
def trmM (m : Mc) (aa bs : List Bool) : Mc := trimM m.1 m.2 (keptL aa bs m.2.length)
def PshAns (m x : Mc) (tot ec : Int) : Prop :=
  (faultM m ≠ 0 ∧ x = (0, []) ∧ tot = 0 ∧ ec = faultM m) ∨
  (faultM m = 0 ∧ ∃ aa bs vs e, Least (AheadC m.1 m.2) m.2.length aa ∧ Least (BackC m.2) m.2.length bs ∧ DstAns (trmM m aa bs) (EndC (trmM m aa bs).2) vs e ∧
    ((e ≠ 0 ∧ x = (0, []) ∧ tot = 0 ∧ ec = e) ∨ (e = 0 ∧ pshO vs (trmM m aa bs).2 = true ∧ x = (0, []) ∧ tot = 0 ∧ ec = 4) ∨
      (e = 0 ∧ pshO vs (trmM m aa bs).2 = false ∧ x = pshM vs (trmM m aa bs) ∧ tot = pshT vs (trmM m aa bs) ∧ ec = 0)))
theorem PshAns.one {m x x' : Mc} {t t' e e' : Int} (h : PshAns m x t e) (k : PshAns m x' t' e') : x = x' ∧ t = t' ∧ e = e' := by
  rcases h with ⟨h0, h1, h2, h3⟩ | ⟨h0, aa, bs, vs, f, hA, hB, hD, h⟩ <;> rcases k with ⟨k0, k1, k2, k3⟩ | ⟨k0, aa', bs', vs', f', kA, kB, kD, k⟩
  · exact ⟨h1.trans k1.symm, h2.trans k2.symm, h3.trans k3.symm⟩
  · exact absurd k0 h0
  · exact absurd h0 k0
  · obtain rfl := hA.one kA
    obtain rfl := hB.one kB
    obtain ⟨rfl, rfl⟩ := hD.one kD
    rcases h with ⟨h1, h2, h3, h4⟩ | ⟨h1, h5, h2, h3, h4⟩ | ⟨h1, h5, h2, h3, h4⟩ <;> rcases k with ⟨k1, k2, k3, k4⟩ | ⟨k1, k5, k2, k3, k4⟩ | ⟨k1, k5, k2, k3, k4⟩
    · exact ⟨h2.trans k2.symm, h3.trans k3.symm, h4.trans k4.symm⟩
    · exact absurd k1 h1
    · exact absurd k1 h1
    · exact absurd h1 k1
    · exact ⟨h2.trans k2.symm, h3.trans k3.symm, h4.trans k4.symm⟩
    · rw [h5] at k5; cases k5
    · exact absurd h1 k1
    · rw [h5] at k5; cases k5
    · exact ⟨h2.trans k2.symm, h3.trans k3.symm, h4.trans k4.symm⟩
/-- P15.2. -/
def pulF (total f : Int) : Int := if f = 1000000001 then 1000000001 else f + total
def pulM (total : Int) (m : Mc) : Mc := (m.1, m.2.map fun s => (pulF total s.1, s.2))
def pulO (total : Int) (l : List St) : Bool := l.any fun s => decide (s.1 ≠ 1000000001) && decide (1000000000 < s.1 + total)
def PulAns (m : Mc) (total : Int) (x : Mc) (ec : Int) : Prop :=
  (faultM m ≠ 0 ∧ x = (0, []) ∧ ec = faultM m) ∨
  (faultM m = 0 ∧ inB total 0 1000000000 = false ∧ x = (0, []) ∧ ec = 2) ∨
  (faultM m = 0 ∧ inB total 0 1000000000 = true ∧ ∃ aa bs, Least (AheadC m.1 m.2) m.2.length aa ∧ Least (BackC m.2) m.2.length bs ∧
    ((pulO total (trmM m aa bs).2 = true ∧ x = (0, []) ∧ ec = 4) ∨ (pulO total (trmM m aa bs).2 = false ∧ x = pulM total (trmM m aa bs) ∧ ec = 0)))
theorem PulAns.one {m x x' : Mc} {total e e' : Int} (h : PulAns m total x e) (k : PulAns m total x' e') : x = x' ∧ e = e' := by
  rcases h with ⟨h0, h1, h2⟩ | ⟨h0, h1, h2, h3⟩ | ⟨h0, h1, aa, bs, hA, hB, h⟩ <;> rcases k with ⟨k0, k1, k2⟩ | ⟨k0, k1, k2, k3⟩ | ⟨k0, k1, aa', bs', kA, kB, k⟩
  · exact ⟨h1.trans k1.symm, h2.trans k2.symm⟩
  · exact absurd k0 h0
  · exact absurd k0 h0
  · exact absurd h0 k0
  · exact ⟨h2.trans k2.symm, h3.trans k3.symm⟩
  · rw [h1] at k1; cases k1
  · exact absurd h0 k0
  · rw [h1] at k1; cases k1
  · obtain rfl := hA.one kA
    obtain rfl := hB.one kB
    rcases h with ⟨h5, h2, h3⟩ | ⟨h5, h2, h3⟩ <;> rcases k with ⟨k5, k2, k3⟩ | ⟨k5, k2, k3⟩
    · exact ⟨h2.trans k2.symm, h3.trans k3.symm⟩
    · rw [h5] at k5; cases k5
    · rw [h5] at k5; cases k5
    · exact ⟨h2.trans k2.symm, h3.trans k3.symm⟩
/-- A potential: no arc is a short cut, no end neither. -/
structure Pot (l : List St) (vs : List Int) : Prop where
  len : vs.length = l.length
  nn : ∀ q, q < l.length → 0 ≤ el vs q ∧ el vs q ≤ 1000000000
  arc : ∀ q, q < l.length → ∀ a ∈ (el l q).2, ∃ t : Nat, a.2.2.2 = (t : Int) ∧ t < l.length ∧ 0 ≤ a.2.2.1 ∧ el vs q ≤ a.2.2.1 + el vs t
  fin : ∀ q, q < l.length → (el l q).1 ≠ 1000000001 → el vs q ≤ (el l q).1 ∧ (el l q).1 ≤ 1000000000
theorem Pot.in_l {l : List St} {vs : List Int} (h : Pot l vs) {q : Nat} {a : Ar} (ha : a ∈ (el l q).2) : q < l.length := el_in ha
theorem Pot.way {l : List St} {vs : List Int} (h : Pot l vs) {q p c : Nat} {u v : List Int} (hq : q < l.length) (hw : Way l q u v p c) :
    p < l.length ∧ ∃ c' : Nat, Way (pshL vs l) q u v p c' ∧ (c' : Int) + el vs q = (c : Int) + el vs p := by
  induction hw with
  | nil => exact ⟨hq, 0, .nil, by omega⟩
  | snoc hw ha ht ih =>
    rename_i u v p c a t
    obtain ⟨hp, c', h1, h2⟩ := ih
    obtain ⟨t', e1, e2, e3, e4⟩ := h.arc p hp a ha
    have : t = t' := by omega
    subst this
    have hm : pshA vs p a ∈ (el (pshL vs l) p).2 := by
      rw [psh_el hp]
      exact List.mem_map_of_mem ha
    have h3 := h1.snoc hm (t := t) ht
    refine ⟨e2, _, h3, ?_⟩
    have e5 : (pshA vs p a).2.2.1 = a.2.2.1 + el vs t - el vs p := by simp only [pshA]; rw [ht, Int.toNat_natCast]
    rw [e5]
    omega
theorem Pot.back {l : List St} {vs : List Int} (h : Pot l vs) {q p c' : Nat} {u v : List Int} (hq : q < l.length) (hw : Way (pshL vs l) q u v p c') :
    p < l.length ∧ ∃ c : Nat, Way l q u v p c ∧ (c' : Int) + el vs q = (c : Int) + el vs p := by
  induction hw with
  | nil => exact ⟨hq, 0, .nil, by omega⟩
  | snoc hw ha ht ih =>
    rename_i u v p c a t
    obtain ⟨hp, c', h1, h2⟩ := ih
    rw [psh_el hp] at ha
    obtain ⟨b, hb, rfl⟩ := List.mem_map.1 ha
    obtain ⟨t', e1, e2, e3, e4⟩ := h.arc p hp b hb
    have ht' : b.2.2.2 = (t : Int) := ht
    have : t = t' := by omega
    subst this
    have h3 := h1.snoc hb (t := t) ht'
    refine ⟨e2, _, h3, ?_⟩
    have e5 : (pshA vs p b).2.2.1 = b.2.2.1 + el vs t - el vs p := by simp only [pshA]; rw [ht', Int.toNat_natCast]
    rw [e5]
    omega
/-- Pushed, each pair of words costs the total less. -/
theorem Pot.costs {z : Nat} {l : List St} {vs : List Int} (h : Pot l vs) (hz : z < l.length) (x y : List Int) (c : Nat) : Costs (pshM vs ((z : Int), l)) x y c ↔ ∃ d, Costs ((z : Int), l) x y d ∧ (d : Int) = (c : Int) + el vs z := by
  have hl : (pshM vs ((z : Int), l)).2.length = l.length := psh_length vs l
  constructor
  · rintro ⟨h0, p, d, hw, hp, hf, rfl⟩
    rw [hl] at hp
    have hw' : Way (pshL vs l) z x y p d := by simpa [pshM] using hw
    obtain ⟨_, c, h1, h2⟩ := h.back hz hw'
    have e1 : (el (pshM vs ((z : Int), l)).2 p).1 = pshF vs p (el l p).1 := by simp only [pshM]; rw [psh_el hp]; rfl
    have hf' : (el l p).1 ≠ 1000000001 := fun e => hf (by rw [e1, e]; rfl)
    obtain ⟨f1, f2⟩ := h.fin p hp hf'
    have f3 := (h.nn p hp).1
    refine ⟨c + (el l p).1.toNat, ⟨by simp, p, c, by simpa using h1, hp, hf', rfl⟩, ?_⟩
    rw [e1]
    simp only [pshF, if_neg hf']
    omega
  · rintro ⟨d, ⟨h0, p, c0, hw, hp, hf, rfl⟩, e⟩
    have hw' : Way l z x y p c0 := by simpa using hw
    obtain ⟨_, c', h1, h2⟩ := h.way hz hw'
    have e1 : (el (pshM vs ((z : Int), l)).2 p).1 = pshF vs p (el l p).1 := by simp only [pshM]; rw [psh_el hp]; rfl
    obtain ⟨f1, f2⟩ := h.fin p hp hf
    have f3 := (h.nn p hp).1
    have f4 := (h.nn p hp).2
    refine ⟨by simp [pshM], p, c', by simpa [pshM] using h1, by rw [hl]; exact hp, ?_, ?_⟩
    · rw [e1]
      simp only [pshF, if_neg hf]
      intro e3
      omega
    · rw [e1]
      simp only [pshF, if_neg hf]
      have : (el l p).1 ≠ 1000000001 := hf
      simp only at e
      omega
end Go.Proofs.YtfekmlblldhieaaDoor.Pl
namespace Go.Proofs.YtfekmlblldhieaaDoor.Pl
theorem keptL_sorted (a b : List Bool) (n : Nat) : (keptL a b n).Pairwise (· < ·) := by
  unfold keptL
  rw [List.pairwise_map]
  refine (List.Pairwise.filter _ (List.pairwise_lt_range (n := n))).imp ?_
  intro x y h
  omega
theorem keptL_iff {a b : List Bool} {n q : Nat} : (q : Int) ∈ keptL a b n ↔ q < n ∧ el a q = true ∧ el b q = true := by
  constructor
  · intro h
    obtain ⟨p, h1, h2, h3, h4⟩ := keptL_mem h
    obtain rfl : q = p := by omega
    exact ⟨h2, h3, h4⟩
  · rintro ⟨h1, h2, h3⟩
    unfold keptL
    simp only [List.mem_map, List.mem_filter, List.mem_range, Bool.and_eq_true]
    exact ⟨q, ⟨h1, h2, h3⟩, rfl⟩
theorem placeI_el {ks : List Int} (hp : ks.Pairwise (· < ·)) {i : Nat} (hi : i < ks.length) : placeI ks (el ks i) = (i : Int) := by
  refine placeI_at hi (fun j hj => ?_) rfl
  have := List.pairwise_iff_getElem.1 hp j i (by omega) hi hj
  rw [el_get hi, el_get (by omega)]
  omega
theorem placeI_mem {ks : List Int} (hp : ks.Pairwise (· < ·)) {x : Int} (h : x ∈ ks) : ∃ i : Nat, i < ks.length ∧ el ks i = x ∧ placeI ks x = (i : Int) := by
  obtain ⟨i, hi, rfl⟩ := mem_el h
  exact ⟨i, hi, rfl, placeI_el hp hi⟩
theorem placeI_not {ks : List Int} {x : Int} (h : x ∉ ks) : placeI ks x = -1 := placeI_none (fun _ hj e => h (e ▸ el_mem hj))
theorem placeI_nonneg {ks : List Int} (hp : ks.Pairwise (· < ·)) {x : Int} : 0 ≤ placeI ks x ↔ x ∈ ks := by
  constructor
  · intro h
    by_cases e : x ∈ ks
    · exact e
    · rw [placeI_not e] at h; omega
  · intro h
    obtain ⟨i, _, _, e⟩ := placeI_mem hp h
    rw [e]; omega
section
variable {z : Int} {l : List St} {aa bs : List Bool}
/-- The trimmed machine's states. -/
theorem trim_el {ks : List Int} {i : Nat} (hi : i < ks.length) : el (ks.map (trimS l ks)) i = ((el l (el ks i).toNat).1, trimA ks (el l (el ks i).toNat).2) := by
  rw [el_map hi]; rfl
theorem trimA_mem {ks : List Int} {ar : List Ar} {c : Ar} (h : c ∈ trimA ks ar) : ∃ d ∈ ar, c = turnA ks d ∧ 0 ≤ placeI ks d.2.2.2 := by
  unfold trimA at h
  simp only [List.mem_filter, List.mem_map, decide_eq_true_eq] at h
  obtain ⟨⟨d, hd, rfl⟩, h0⟩ := h
  exact ⟨d, hd, rfl, h0⟩
theorem trimA_in {ks : List Int} {ar : List Ar} {d : Ar} (hd : d ∈ ar) (h0 : 0 ≤ placeI ks d.2.2.2) : turnA ks d ∈ trimA ks ar := by
  unfold trimA
  simp only [List.mem_filter, List.mem_map, decide_eq_true_eq]
  exact ⟨⟨d, hd, rfl⟩, h0⟩
theorem el_true {n j : Nat} : el (List.replicate n true) j = true ↔ j < n := by
  unfold el
  rw [List.getElem?_replicate]
  split
  · rename_i h; simp [h]
  · rename_i h; simp [h]
/-- Where arcs of a right machine lead. -/
theorem to_right (hf : faultM (z, l) = 0) {q : Nat} (hq : q < l.length) {d : Ar} (hd : d ∈ (el l q).2) : ∃ t : Nat, d.2.2.2 = (t : Int) ∧ t < l.length := by
  have h := List.all_eq_true.1 (right_st hf hq).2 d hd
  simp only [arcB, inB, Bool.and_eq_true, decide_eq_true_eq] at h
  exact ⟨d.2.2.2.toNat, by omega, by omega⟩
theorem trim_ahead (hf : faultM (z, l) = 0) (hA : Least (AheadC z l) l.length aa) (hB : Least (BackC l) l.length bs) (T : Nat → Prop) (hT : AheadC (placeI (keptL aa bs l.length) z) ((keptL aa bs l.length).map (trimS l (keptL aa bs l.length))) T) :
    ∀ i, i < (keptL aa bs l.length).length → T i := by
  have hp := keptL_sorted aa bs l.length
  have hk : ∀ q, q < l.length → el aa q = true → el bs q = true → ∃ i : Nat, i < (keptL aa bs l.length).length ∧ el (keptL aa bs l.length) i = (q : Int) ∧ placeI (keptL aa bs l.length) (q : Int) = (i : Int) := fun q hq h1 h2 => placeI_mem hp (keptL_iff.2 ⟨hq, h1, h2⟩)
  have key : ∀ q, q < l.length → el aa q = true → (el aa q = true ∧ (el bs q = true → T (placeI (keptL aa bs l.length) (q : Int)).toNat)) := by
    refine hA.2.2 (fun q => el aa q = true ∧ (el bs q = true → T (placeI (keptL aa bs l.length) (q : Int)).toNat)) ⟨?_, ?_⟩
    · intro q hq hz
      have h1 := hA.2.1.1 q hq hz
      refine ⟨h1, fun h2 => ?_⟩
      obtain ⟨i, hi, _, e⟩ := hk q hq h1 h2
      rw [e]
      refine hT.1 _ (by simpa using hi) ?_
      rw [← hz, e]; simp
    · intro q hq h9 d hd
      obtain ⟨t, ht, htn⟩ := to_right hf hq hd
      have h1 := hA.2.1.2 q hq h9.1 d hd
      rw [ht] at h1 ⊢
      simp only [Int.toNat_natCast] at h1 ⊢
      refine ⟨h1, fun h2 => ?_⟩
      have hbq : el bs q = true := hB.2.1.2 q hq d hd (by rw [ht]; simpa using h2)
      obtain ⟨i, hi, hei, e⟩ := hk q hq h9.1 hbq
      obtain ⟨j, hj, hej, e2⟩ := hk t htn h1 h2
      have h3 := h9.2 hbq
      rw [e] at h3
      have h4 := hT.2 i (by simpa using hi) (by simpa using h3) (turnA (keptL aa bs l.length) d) (by
        rw [trim_el hi, hei]
        simp only [Int.toNat_natCast]
        exact trimA_in hd (by rw [ht, e2]; omega))
      simp only [turnA] at h4
      rw [ht] at h4
      exact h4
  intro i hi
  obtain ⟨q, hq, hqn, h1, h2⟩ := keptL_mem (el_mem hi)
  have h3 := (key q hqn h1).2 h2
  rw [← hq, placeI_el hp hi] at h3
  simpa using h3
end
end Go.Proofs.YtfekmlblldhieaaDoor.Pl
namespace Go.Proofs.YtfekmlblldhieaaDoor.Pl
section
variable {z : Int} {l : List St} {aa bs : List Bool}
theorem trim_back (hf : faultM (z, l) = 0) (hA : Least (AheadC z l) l.length aa) (hB : Least (BackC l) l.length bs) (T : Nat → Prop) (hT : BackC ((keptL aa bs l.length).map (trimS l (keptL aa bs l.length))) T) :
    ∀ i, i < (keptL aa bs l.length).length → T i := by
  have hp := keptL_sorted aa bs l.length
  have hk : ∀ q, q < l.length → el aa q = true → el bs q = true → ∃ i : Nat, i < (keptL aa bs l.length).length ∧ el (keptL aa bs l.length) i = (q : Int) ∧ placeI (keptL aa bs l.length) (q : Int) = (i : Int) := fun q hq h1 h2 => placeI_mem hp (keptL_iff.2 ⟨hq, h1, h2⟩)
  have key : ∀ q, q < l.length → el bs q = true → (el bs q = true ∧ (el aa q = true → T (placeI (keptL aa bs l.length) (q : Int)).toNat)) := by
    refine hB.2.2 (fun q => el bs q = true ∧ (el aa q = true → T (placeI (keptL aa bs l.length) (q : Int)).toNat)) ⟨?_, ?_⟩
    · intro q hq hz
      have h1 := hB.2.1.1 q hq hz
      refine ⟨h1, fun h2 => ?_⟩
      obtain ⟨i, hi, hei, e⟩ := hk q hq h2 h1
      rw [e]
      refine hT.1 _ (by simpa using hi) ?_
      rw [Int.toNat_natCast, trim_el hi, hei]
      simpa using hz
    · intro q hq d hd h9
      obtain ⟨t, ht, htn⟩ := to_right hf hq hd
      rw [ht] at h9
      simp only [Int.toNat_natCast] at h9
      have h1 : el bs q = true := hB.2.1.2 q hq d hd (by rw [ht]; simpa using h9.1)
      refine ⟨h1, fun h2 => ?_⟩
      have h3 : el aa t = true := by have := hA.2.1.2 q hq h2 d hd; rw [ht] at this; simpa using this
      obtain ⟨i, hi, hei, e⟩ := hk q hq h2 h1
      obtain ⟨j, hj, hej, e2⟩ := hk t htn h3 h9.1
      have h4 := h9.2 h3
      rw [e2] at h4
      rw [e]
      refine hT.2 i (by simpa using hi) (turnA (keptL aa bs l.length) d) (by
        rw [trim_el hi, hei]
        simp only [Int.toNat_natCast]
        exact trimA_in hd (by rw [ht, e2]; omega)) ?_
      simp only [turnA]
      rw [ht, e2]
      exact h4
  intro i hi
  obtain ⟨q, hq, hqn, h1, h2⟩ := keptL_mem (el_mem hi)
  have h3 := (key q hqn h2).2 h1
  rw [← hq, placeI_el hp hi] at h3
  simpa using h3
theorem arcN_cons (s : St) (l : List St) : arcN (s :: l) = s.2.length + arcN l := rfl
theorem trim_arcs (ks : List Int) (n : Nat) (hn : n ≤ l.length) : arcN ((keptL aa bs n).map (trimS l ks)) ≤ arcN (l.take n) := by
  induction n with
  | zero => simp [keptL, arcN]
  | succ n ih =>
    rw [keptL_succ, List.map_append, arcN_append, arcN_take (by omega)]
    have := ih (by omega)
    split
    · have h9 := trimA_le ks (el l n).2
      simp only [List.map_cons, List.map_nil, arcN_cons, arcN, trimS, Int.toNat_natCast]
      omega
    · simp only [List.map_nil, arcN]
      omega
theorem trim_fault (hf : faultM (z, l) = 0) : faultM (trimM z l (keptL aa bs l.length)) = 0 := by
  have hp := keptL_sorted aa bs l.length
  have hle := keptL_le aa bs l.length
  have hsz := right_size hf
  have har := trim_arcs (l := l) (aa := aa) (bs := bs) (keptL aa bs l.length) l.length (Nat.le_refl _)
  rw [List.take_length] at har
  have hpl : ∀ x, -1 ≤ placeI (keptL aa bs l.length) x ∧ placeI (keptL aa bs l.length) x ≤ ((keptL aa bs l.length).length : Int) - 1 := fun x => by
    by_cases e : x ∈ keptL aa bs l.length
    · obtain ⟨i, hi, _, h⟩ := placeI_mem hp e
      rw [h]; omega
    · rw [placeI_not e]; omega
  refine faultM_ok ?_ ?_
  · simp only [sizeB, trimM, Bool.and_eq_true, List.length_map]
    exact ⟨decide_eq_true (by omega), decide_eq_true (by omega)⟩
  · simp only [rangeB, trimM, Bool.and_eq_true, List.length_map, List.all_eq_true]
    refine ⟨by simp only [inB, Bool.and_eq_true, decide_eq_true_eq]; exact hpl z, fun s hs => ?_⟩
    obtain ⟨x, hx, rfl⟩ := List.mem_map.1 hs
    obtain ⟨q, rfl, hq, _, _⟩ := keptL_mem hx
    have h1 := right_st hf hq
    simp only [stB, trimS, Bool.and_eq_true, List.all_eq_true, Int.toNat_natCast]
    refine ⟨h1.1, fun c hc => ?_⟩
    obtain ⟨d, hd, rfl, h0⟩ := trimA_mem hc
    have h2 := List.all_eq_true.1 h1.2 d hd
    have h3 := hpl d.2.2.2
    simp only [arcB, inB, Bool.and_eq_true, decide_eq_true_eq] at h2
    simp only [arcB, turnA, inB, Bool.and_eq_true]
    exact ⟨⟨⟨⟨decide_eq_true (by omega), decide_eq_true (by omega)⟩, ⟨decide_eq_true (by omega), decide_eq_true (by omega)⟩⟩, ⟨decide_eq_true (by omega), decide_eq_true (by omega)⟩⟩, ⟨decide_eq_true h0, decide_eq_true h3.2⟩⟩
theorem trim_ok (hm : okM (z, l)) : okM (trimM z l (keptL aa bs l.length)) := by
  have hle := keptL_le aa bs l.length
  have h1 := hm.1
  have h2 := hm.2
  refine ⟨by simp only [trimM, List.length_map] at h1 ⊢; omega, fun j hj => ?_⟩
  simp only [trimM, List.length_map] at hj ⊢
  rw [trim_el hj]
  obtain ⟨q, e, hq, _, _⟩ := keptL_mem (el_mem hj)
  rw [e]
  have := trimA_le (keptL aa bs l.length) (el l q).2
  have := h2 q hq
  simp only [Int.toNat_natCast] at this ⊢
  omega
theorem all_least {C : (Nat → Prop) → Prop} {n : Nat} (hC : C (fun q => q < n)) (h : ∀ T, C T → ∀ i, i < n → T i) : Least C n (List.replicate n true) :=
  ⟨by simp, by
    have : (fun q => el (List.replicate n true) q = true) = fun q => q < n := by funext q; rw [el_true]
    rw [this]; exact hC, fun T hT q hq _ => h T hT q hq⟩
theorem trim_to (hf : faultM (z, l) = 0) {i : Nat} (hi : i < (keptL aa bs l.length).length) {c : Ar} (hc : c ∈ (el ((keptL aa bs l.length).map (trimS l (keptL aa bs l.length))) i).2) : ∃ t : Nat, c.2.2.2 = (t : Int) ∧ t < (keptL aa bs l.length).length := by
  have h := to_right (trim_fault (aa := aa) (bs := bs) hf) (q := i) (by simpa [trimM] using hi) (d := c) (by simpa [trimM] using hc)
  simpa using h
theorem trim_all_ahead (hf : faultM (z, l) = 0) (hA : Least (AheadC z l) l.length aa) (hB : Least (BackC l) l.length bs) :
    Least (AheadC (placeI (keptL aa bs l.length) z) ((keptL aa bs l.length).map (trimS l (keptL aa bs l.length)))) (keptL aa bs l.length).length (List.replicate (keptL aa bs l.length).length true) := by
  refine all_least ⟨fun q hq _ => by simpa using hq, fun q hq h c hc => ?_⟩ (trim_ahead hf hA hB)
  obtain ⟨t, h1, h2⟩ := trim_to hf (by simpa using hq) hc
  rw [h1]; simpa using h2
theorem trim_all_back (hf : faultM (z, l) = 0) (hA : Least (AheadC z l) l.length aa) (hB : Least (BackC l) l.length bs) :
    Least (BackC ((keptL aa bs l.length).map (trimS l (keptL aa bs l.length)))) (keptL aa bs l.length).length (List.replicate (keptL aa bs l.length).length true) := by
  refine all_least ⟨fun q hq _ => by simpa using hq, fun q hq c hc _ => by simpa using hq⟩ (trim_back hf hA hB)
/-- All numbers below n. -/
theorem kept_all (n : Nat) : keptL (List.replicate n true) (List.replicate n true) n = (List.range n).map fun q : Nat => (q : Int) := by
  unfold keptL
  congr 1
  rw [List.filter_eq_self]
  intro q hq
  have := el_true.2 (List.mem_range.1 hq)
  simp [this]
theorem place_all {n : Nat} {x : Int} (h1 : -1 ≤ x) (h2 : x < n) : placeI ((List.range n).map fun q : Nat => (q : Int)) x = x := by
  have hp : ((List.range n).map fun q : Nat => (q : Int)).Pairwise (· < ·) := by
    have := keptL_sorted (List.replicate n true) (List.replicate n true) n
    rwa [kept_all] at this
  by_cases e : 0 ≤ x
  · have h3 : x.toNat < n := by omega
    have := placeI_el hp (i := x.toNat) (by simpa using h3)
    rw [el_range_map (fun q : Nat => (q : Int)) h3] at this
    rw [show ((x.toNat : Nat) : Int) = x by omega] at this
    exact this
  · rw [placeI_not (by intro h; obtain ⟨q, _, h9⟩ := List.mem_map.1 h; omega)]
    omega
theorem trimA_all {n : Nat} {ar : List Ar} (h : ∀ a ∈ ar, ∃ t : Nat, a.2.2.2 = (t : Int) ∧ t < n) : trimA ((List.range n).map fun q : Nat => (q : Int)) ar = ar := by
  unfold trimA
  have : ar.map (turnA ((List.range n).map fun q : Nat => (q : Int))) = ar := by
    conv => rhs; rw [← List.map_id ar]
    refine List.map_congr_left fun a ha => ?_
    obtain ⟨t, h1, h2⟩ := h a ha
    unfold turnA
    rw [h1, place_all (by omega) (by omega), ← h1]
    rfl
  rw [this, List.filter_eq_self]
  intro a ha
  obtain ⟨t, h1, h2⟩ := h a ha
  simp [h1]
/-- A right machine of which all states are left stays as it is. -/
theorem trim_all (hf : faultM (z, l) = 0) : trimM z l (keptL (List.replicate l.length true) (List.replicate l.length true) l.length) = (z, l) := by
  rw [kept_all]
  unfold trimM
  have hz := (faultM_zero hf).2
  simp only [rangeB, Bool.and_eq_true, inB, decide_eq_true_eq] at hz
  rw [place_all (by omega) (by omega)]
  congr 1
  apply el_ext (by simp)
  intro j hj
  have hj' : j < l.length := by simpa using hj
  rw [el_map (by simpa using hj'), el_range_map (fun q : Nat => (q : Int)) hj']
  unfold trimS
  rw [Int.toNat_natCast, trimA_all (fun a ha => to_right hf hj' ha)]
/-- Where the start is not left, nothing is. -/
theorem trim_start (hA : Least (AheadC z l) l.length aa) (hB : Least (BackC l) l.length bs) : placeI (keptL aa bs l.length) z < 0 ↔ (keptL aa bs l.length).length = 0 := by
  have hp := keptL_sorted aa bs l.length
  constructor
  · intro h
    have hz : z ∉ keptL aa bs l.length := fun h9 => by have := (placeI_nonneg hp).2 h9; omega
    by_cases e : (keptL aa bs l.length).length = 0
    · exact e
    · obtain ⟨q, hq, hqn, h1, h2⟩ := keptL_mem (el_mem (l := keptL aa bs l.length) (j := 0) (by omega))
      have key := hA.2.2 (fun q => el aa q = true ∧ ¬ el bs q = true) ⟨fun q hq h9 => ?_, fun q hq h9 d hd => ?_⟩ q hqn h1
      · exact absurd h2 key.2
      · have h3 := hA.2.1.1 q hq h9
        exact ⟨h3, fun h4 => hz (by rw [← h9]; exact keptL_iff.2 ⟨hq, h3, h4⟩)⟩
      · exact ⟨hA.2.1.2 q hq h9.1 d hd, fun h4 => h9.2 (hB.2.1.2 q hq d hd h4)⟩
  · intro h
    have : keptL aa bs l.length = [] := List.eq_nil_of_length_eq_zero h
    rw [this, placeI_not (by simp)]
    omega
/-- How many arcs lead from a state that is left to one that can end. -/
def cntK (l : List St) (aa bs : List Bool) : Nat → Nat
  | 0 => 0
  | n + 1 => cntK l aa bs n + (if (el aa n && el bs n) = true then (el l n).2.countP (fun a => el bs a.2.2.2.toNat) else 0)
theorem trimA_count {ks : List Int} {p : Ar → Bool} {ar : List Ar} (h : ∀ a ∈ ar, (0 ≤ placeI ks a.2.2.2 ↔ p a = true)) : (trimA ks ar).length = ar.countP p := by
  unfold trimA
  rw [← List.countP_eq_length_filter, List.countP_map]
  refine List.countP_congr fun a ha => ?_
  simp only [Function.comp, turnA]
  exact decide_eq_true_iff.trans (h a ha)
theorem trim_count (hf : faultM (z, l) = 0) (hA : Least (AheadC z l) l.length aa) (n : Nat) (hn : n ≤ l.length) : arcN ((keptL aa bs n).map (trimS l (keptL aa bs l.length))) = cntK l aa bs n := by
  induction n with
  | zero => simp [keptL, arcN, cntK]
  | succ n ih =>
    rw [keptL_succ, List.map_append, arcN_append, ih (by omega), cntK]
    split
    · rename_i hk
      simp only [Bool.and_eq_true] at hk
      simp only [List.map_cons, List.map_nil, arcN_cons, arcN, trimS, Int.toNat_natCast, Nat.add_zero]
      rw [trimA_count (p := fun a => el bs a.2.2.2.toNat)]
      intro a ha
      obtain ⟨t, h1, h2⟩ := to_right hf (q := n) (by omega) ha
      have h3 := hA.2.1.2 n (by omega) hk.1 a ha
      rw [placeI_nonneg (keptL_sorted aa bs l.length)]
      rw [h1] at h3 ⊢
      simp only [Int.toNat_natCast] at h3 ⊢
      rw [keptL_iff]
      exact ⟨fun h => h.2.2, fun h => ⟨h2, h3, h⟩⟩
    · simp [arcN]
end
end Go.Proofs.YtfekmlblldhieaaDoor.Pl
namespace Go.Proofs.YtfekmlblldhieaaDoor.Pl
theorem okRight {m : Mc} (h : faultM m = 0) : okM m := by
  have h1 := right_size (z := m.1) (l := m.2) h
  refine ⟨by omega, fun j hj => ?_⟩
  have h2 := arcN_take hj
  have h3 : arcN (m.2.take (j + 1)) ≤ arcN m.2 := by
    conv => rhs; rw [← List.take_append_drop (j + 1) m.2, arcN_append]
    omega
  omega
theorem trimmed_facts {z : Int} {l : List St} {aa bs : List Bool} (hf : faultM (z, l) = 0) (hA : Least (AheadC z l) l.length aa) (hB : Least (BackC l) l.length bs) :
    ∃ (tz : Int) (tl : List St), trimM z l (keptL aa bs l.length) = (tz, tl) ∧ faultM (tz, tl) = 0 ∧ (∀ a, Least (AheadC tz tl) tl.length a → a = List.replicate tl.length true) ∧ (∀ b, Least (BackC tl) tl.length b → b = List.replicate tl.length true) ∧
      (∀ a b, Least (AheadC tz tl) tl.length a → Least (BackC tl) tl.length b → trimM tz tl (keptL a b tl.length) = (tz, tl)) ∧ (tz < 0 ↔ tl.length = 0) ∧ tl.length ≤ l.length := by
  have hl : ((keptL aa bs l.length).map (trimS l (keptL aa bs l.length))).length = (keptL aa bs l.length).length := List.length_map _
  have h1 := trim_all_ahead hf hA hB
  have h2 := trim_all_back hf hA hB
  have h3 := trim_fault (aa := aa) (bs := bs) hf
  have h4 := trim_start hA hB
  rw [← hl] at h1 h2 h4
  refine ⟨_, _, rfl, h3, fun a ha => ha.one h1, fun b hb => hb.one h2, fun a b ha hb => ?_, h4, by rw [hl]; exact keptL_le _ _ _⟩
  rw [ha.one h1, hb.one h2]
  exact trim_all h3
end Go.Proofs.YtfekmlblldhieaaDoor.Pl
namespace Go.Proofs.YtfekmlblldhieaaDoor.Pl
set_option linter.unusedVariables false
set_option linter.unusedSimpArgs false
theorem arc_rightP {m : Mc} (h : faultM m = 0) {q : Nat} (hq : q < m.2.length) {a : Ar} (ha : a ∈ (el m.2 q).2) : 0 ≤ a.1 ∧ a.1 ≤ 1000 ∧ 0 ≤ a.2.1 ∧ a.2.1 ≤ 1000 ∧ 0 ≤ a.2.2.1 ∧ a.2.2.1 ≤ 1000000000 ∧ ∃ t : Nat, a.2.2.2 = (t : Int) ∧ t < m.2.length := by
  obtain ⟨z, l⟩ := m
  simp only at hq ha ⊢
  have h1 := (right_st h hq).2
  rw [List.all_eq_true] at h1
  have h2 := h1 a ha
  simp only [arcB, Bool.and_eq_true, inB, decide_eq_true_eq] at h2
  exact ⟨by omega, by omega, by omega, by omega, by omega, by omega, a.2.2.2.toNat, by omega, by omega⟩
/-- Where each state can end, it has an end at some cost. -/
theorem end_all {m : Mc} (hf : faultM m = 0) {bs : List Bool} (hB : Least (BackC m.2) m.2.length bs) {q : Nat} (hq : q < m.2.length) (h : el bs q = true) : ∃ c, EndC m.2 q c := by
  refine hB.2.2 (fun q => ∃ c, EndC m.2 q c) ⟨fun q hq hn => ⟨_, 0, q, 0, .nil, hq, hn, rfl⟩, fun q hq a ha => ?_⟩ q hq h
  rintro ⟨c, n, p, d, hr, hp, hn, rfl⟩
  obtain ⟨_, _, _, _, _, _, t, e1, e2⟩ := arc_rightP hf hq ha
  rw [e1, Int.toNat_natCast] at hr
  exact ⟨_, n + 1, p, a.2.2.1.toNat + d, Run.first ⟨a, ha, e1, rfl⟩ hr, hp, hn, rfl⟩
theorem pot_of {m : Mc} {vs : List Int} (hf : faultM m = 0) (hall : ∀ q, q < m.2.length → ∃ c, EndC m.2 q c) (hD : DstAns m (EndC m.2) vs 0) : Pot m.2 vs ∧ ∀ q, q < m.2.length → LeastP (EndC m.2 q) (el vs q).toNat := by
  have hL : vs.length = m.2.length ∧ ∀ q, q < m.2.length → ∃ c : Nat, LeastP (EndC m.2 q) c ∧ c ≤ 1000000000 ∧ el vs q = (c : Int) := by
    rcases hD with ⟨h0, _⟩ | ⟨_, ⟨_, h1, h2⟩ | ⟨h1, _⟩⟩
    · exact absurd hf h0
    · refine ⟨h1, fun q hq => ?_⟩
      rcases h2 q hq with ⟨k, _⟩ | ⟨c, hc, ⟨k1, k2, _⟩ | ⟨_, _, k⟩⟩
      · obtain ⟨c, hc⟩ := hall q hq
        exact absurd hc (k c)
      · exact ⟨c, hc, k1, k2⟩
      · cases k
    · cases h1
  refine ⟨⟨hL.1, fun q hq => ?_, fun q hq a ha => ?_, fun q hq hn => ?_⟩, fun q hq => ?_⟩
  · obtain ⟨c, _, h2, h3⟩ := hL.2 q hq
    omega
  · obtain ⟨_, _, _, _, h5, _, t, e1, e2⟩ := arc_rightP hf hq ha
    obtain ⟨c, h1, h2, h3⟩ := hL.2 q hq
    obtain ⟨d, k1, k2, k3⟩ := hL.2 t e2
    refine ⟨t, e1, e2, h5, ?_⟩
    obtain ⟨n, p, d0, hr, hp, hn, e⟩ := k1.1
    have := h1.2 (a.2.2.1.toNat + d) ⟨n + 1, p, a.2.2.1.toNat + d0, Run.first ⟨a, ha, e1, rfl⟩ hr, hp, hn, by omega⟩
    omega
  · obtain ⟨c, h1, h2, h3⟩ := hL.2 q hq
    obtain ⟨f1, f2⟩ := fin_small hf hq hn
    have := h1.2 _ ⟨0, q, 0, .nil, hq, hn, rfl⟩
    omega
  · obtain ⟨c, h1, h2, h3⟩ := hL.2 q hq
    rw [h3, Int.toNat_natCast]
    exact h1
theorem psh_arcN (vs : List Int) (l : List St) : arcN (pshL vs l) = arcN l := by
  have key : ∀ n, n ≤ l.length → arcN ((List.range n).map (pshS vs l)) = arcN (l.take n) := by
    intro n
    induction n with
    | zero => intro _; simp [arcN]
    | succ n ih =>
      intro hn
      rw [List.range_succ, List.map_append, arcN_append, ih (by omega), arcN_take (by omega)]
      simp [arcN, pshS]
  have := key l.length (Nat.le_refl _)
  rwa [List.take_of_length_le (Nat.le_refl _)] at this
theorem psh_over {vs : List Int} {l : List St} (h : pshO vs l = false) {q : Nat} (hq : q < l.length) {a : Ar} (ha : a ∈ (el l q).2) : (pshA vs q a).2.2.1 ≤ 1000000000 := by
  unfold pshO at h
  rw [List.any_eq_false] at h
  have h1 := h q (List.mem_range.2 hq)
  rw [Bool.not_eq_true, List.any_eq_false] at h1
  have h2 := h1 a ha
  simpa using h2
theorem psh_right {m : Mc} {vs : List Int} (hf : faultM m = 0) (hP : Pot m.2 vs) (hO : pshO vs m.2 = false) : faultM (pshM vs m) = 0 := by
  obtain ⟨h1, h2⟩ := faultM_zero hf
  refine faultM_ok ?_ ?_
  · simp only [sizeB, pshM, psh_length, psh_arcN] at h1 ⊢
    exact h1
  · simp only [rangeB, pshM, psh_length, Bool.and_eq_true] at h2 ⊢
    refine ⟨h2.1, ?_⟩
    rw [List.all_eq_true]
    intro s hs
    obtain ⟨q, hq, rfl⟩ := List.mem_map.1 hs
    rw [List.mem_range] at hq
    have g1 := hP.nn q hq
    unfold stB
    rw [Bool.and_eq_true]
    constructor
    · simp only [pshS, pshF]
      by_cases hn : (el m.2 q).1 = 1000000001
      · rw [if_pos hn]; rfl
      · rw [if_neg hn]
        have := hP.fin q hq hn
        simp [finB, inB]
        omega
    · rw [List.all_eq_true]
      intro b hb
      simp only [pshS] at hb
      obtain ⟨a, ha, rfl⟩ := List.mem_map.1 hb
      have k1 := psh_over hO hq ha
      obtain ⟨t, e1, e2, e3, e4⟩ := hP.arc q hq a ha
      obtain ⟨r1, r2, r3, r4, _, _, _⟩ := arc_rightP hf hq ha
      have k2 : (pshA vs q a).2.2.1 = a.2.2.1 + el vs t - el vs q := by simp only [pshA]; rw [e1, Int.toNat_natCast]
      have k3 := (hP.nn t e2).1
      simp only [arcB, Bool.and_eq_true, inB, decide_eq_true_eq]
      refine ⟨⟨⟨⟨r1, r2⟩, r3, r4⟩, by omega, k1⟩, ?_⟩
      simp only [pshA]
      omega
/-! The same sets. -/
theorem psh_aheadC {z : Int} {vs : List Int} {l : List St} (S : Nat → Prop) : AheadC z (pshL vs l) S ↔ AheadC z l S := by
  unfold AheadC
  rw [psh_length]
  refine and_congr_right fun _ => ⟨fun h q hq hS a ha => ?_, fun h q hq hS a ha => ?_⟩
  · have := h q hq hS (pshA vs q a) (by rw [psh_el hq]; exact List.mem_map_of_mem ha)
    exact this
  · rw [psh_el hq] at ha
    obtain ⟨b, hb, rfl⟩ := List.mem_map.1 ha
    exact h q hq hS b hb
theorem psh_fin {vs : List Int} {l : List St} (hP : Pot l vs) {q : Nat} (hq : q < l.length) : (el (pshL vs l) q).1 ≠ 1000000001 ↔ (el l q).1 ≠ 1000000001 := by
  rw [psh_el hq]
  simp only [pshS, pshF]
  by_cases hn : (el l q).1 = 1000000001
  · rw [if_pos hn]; simp [hn]
  · rw [if_neg hn]
    have h1 := hP.fin q hq hn
    have h2 := (hP.nn q hq).1
    constructor
    · exact fun _ => hn
    · intro _ e; omega
theorem psh_backC {vs : List Int} {l : List St} (hP : Pot l vs) (S : Nat → Prop) : BackC (pshL vs l) S ↔ BackC l S := by
  unfold BackC
  rw [psh_length]
  constructor
  · rintro ⟨h1, h2⟩
    refine ⟨fun q hq hn => h1 q hq ((psh_fin hP hq).2 hn), fun q hq a ha hS => ?_⟩
    exact h2 q hq (pshA vs q a) (by rw [psh_el hq]; exact List.mem_map_of_mem ha) hS
  · rintro ⟨h1, h2⟩
    refine ⟨fun q hq hn => h1 q hq ((psh_fin hP hq).1 hn), fun q hq a ha hS => ?_⟩
    rw [psh_el hq] at ha
    obtain ⟨b, hb, rfl⟩ := List.mem_map.1 ha
    exact h2 q hq b hb hS
theorem psh_ahead {z : Int} {vs : List Int} {l : List St} {bs : List Bool} : Least (AheadC z (pshL vs l)) (pshL vs l).length bs ↔ Least (AheadC z l) l.length bs := by
  unfold Least
  rw [psh_length]
  simp only [psh_aheadC]
theorem psh_back {vs : List Int} {l : List St} (hP : Pot l vs) {bs : List Bool} : Least (BackC (pshL vs l)) (pshL vs l).length bs ↔ Least (BackC l) l.length bs := by
  unfold Least
  rw [psh_length]
  simp only [psh_backC hP]
/-! Ends. -/
theorem Pot.run {l : List St} {vs : List Int} (h : Pot l vs) {q n p c : Nat} (hq : q < l.length) (hw : Run (ArcE l) q n p c) :
    p < l.length ∧ ∃ c' : Nat, Run (ArcE (pshL vs l)) q n p c' ∧ (c' : Int) + el vs q = (c : Int) + el vs p := by
  induction hw with
  | nil => exact ⟨hq, 0, .nil, by omega⟩
  | step hw e ih =>
    rename_i n k c w j
    obtain ⟨hk, c', h1, h2⟩ := ih
    obtain ⟨a, ha, e0, rfl⟩ := e
    obtain ⟨t, e1, e2, e3, e4⟩ := h.arc k hk a ha
    have : j = t := by omega
    subst this
    have e5 : (pshA vs k a).2.2.1 = a.2.2.1 + el vs j - el vs k := by simp only [pshA]; rw [e0, Int.toNat_natCast]
    refine ⟨e2, _, h1.step ⟨pshA vs k a, by rw [psh_el hk]; exact List.mem_map_of_mem ha, e0, rfl⟩, ?_⟩
    rw [e5]
    omega
theorem Pot.runBack {l : List St} {vs : List Int} (h : Pot l vs) {q n p c' : Nat} (hq : q < l.length) (hw : Run (ArcE (pshL vs l)) q n p c') :
    p < l.length ∧ ∃ c : Nat, Run (ArcE l) q n p c ∧ (c' : Int) + el vs q = (c : Int) + el vs p := by
  induction hw with
  | nil => exact ⟨hq, 0, .nil, by omega⟩
  | step hw e ih =>
    rename_i n k c w j
    obtain ⟨hk, c', h1, h2⟩ := ih
    obtain ⟨a, ha, e0, rfl⟩ := e
    rw [psh_el hk] at ha
    obtain ⟨b, hb, rfl⟩ := List.mem_map.1 ha
    obtain ⟨t, e1, e2, e3, e4⟩ := h.arc k hk b hb
    have e0' : b.2.2.2 = (j : Int) := e0
    have : j = t := by omega
    subst this
    have e5 : (pshA vs k b).2.2.1 = b.2.2.1 + el vs j - el vs k := by simp only [pshA]; rw [e1, Int.toNat_natCast]
    refine ⟨e2, _, h1.step ⟨b, hb, e1, rfl⟩, ?_⟩
    rw [e5]
    omega
/-- From each state of a pushed machine an end can be had for 0. -/
theorem psh_zero {l : List St} {vs : List Int} (h : Pot l vs) {q : Nat} (hq : q < l.length) (hL : LeastP (EndC l q) (el vs q).toNat) : LeastP (EndC (pshL vs l) q) 0 := by
  refine ⟨?_, fun d _ => Nat.zero_le _⟩
  obtain ⟨n, p, d, hr, hp, hn, e⟩ := hL.1
  obtain ⟨_, c', h1, h2⟩ := h.run hq hr
  have f := h.fin p hp hn
  have g := h.nn p hp
  have gq := h.nn q hq
  refine ⟨n, p, c', h1, by rw [psh_length]; exact hp, (psh_fin h hp).2 hn, ?_⟩
  rw [psh_el hp]
  simp only [pshS, pshF, if_neg hn]
  omega
/-- Pushed with nothing, it stays. -/
theorem psh_stays {m : Mc} (hf : faultM m = 0) {vs : List Int} (h0 : ∀ q, q < m.2.length → el vs q = 0) : pshM vs m = m ∧ pshO vs m.2 = false ∧ pshT vs m = 0 := by
  have hA : ∀ q, q < m.2.length → ∀ a ∈ (el m.2 q).2, pshA vs q a = a := fun q hq a ha => by
    obtain ⟨_, _, _, _, _, _, t, e1, e2⟩ := arc_rightP hf hq ha
    simp only [pshA]
    rw [e1, Int.toNat_natCast, h0 t e2, h0 q hq, ← e1]
    simp
  have hz := (faultM_zero hf).2
  refine ⟨?_, ?_, ?_⟩
  · obtain ⟨z, l⟩ := m
    simp only [pshM]
    congr 1
    refine el_ext (psh_length vs l) fun q hq => ?_
    rw [psh_length] at hq
    rw [psh_el hq]
    simp only [pshS, pshF]
    rw [h0 q hq]
    have e1 : (if (el l q).1 = 1000000001 then (1000000001 : Int) else (el l q).1 - 0) = (el l q).1 := by split <;> omega
    rw [e1]
    have e2 : (el l q).2.map (pshA vs q) = (el l q).2 := by
      conv => rhs; rw [← List.map_id (el l q).2]
      exact List.map_congr_left fun a ha => hA q hq a ha
    rw [e2]
  · unfold pshO
    rw [List.any_eq_false]
    intro q hq
    rw [List.mem_range] at hq
    rw [Bool.not_eq_true, List.any_eq_false]
    intro a ha
    rw [hA q hq a ha]
    have := (arc_rightP hf hq ha).2.2.2.2.2.1
    simpa using this
  · unfold pshT
    split
    · rfl
    · simp only [rangeB, Bool.and_eq_true, inB, decide_eq_true_eq] at hz
      exact h0 _ (by omega)
end Go.Proofs.YtfekmlblldhieaaDoor.Pl
