/- Composed, two words cost what the best word between costs (no program in sight). Runs along empty arcs, through ever more states (no program in sight). What a machine is like when one state of it has an arc more (no program in sight). The least costs along empty arcs alone, between all states (no program in sight). Plain facts on arcs put in order (no program in sight). A machine without its empty arcs (no program in sight). What arranging keeps (no program in sight). Labels changed for others (no program in sight). What changes no cost: arcs in another order, lighter ones alone, labels exchanged (no program in sight). Without empty arcs it costs the same (no program in sight). What a machine without empty arcs is like; there nothing happens but that arcs are merged (no program in sight). Composed machines are right; of small weights none is over (no program in sight). -/
import Derived.Test.YtfekmlblldhieaaGreatDoorJ17b
import Derived.Test.YtfekmlblldhieaaGreatDoorJ17c
import Derived.Test.YtfekmlblldhieaaGreatDoorJ17a
namespace Go.Proofs.YtfekmlblldhieaaGreatDoor.Pl
set_option linter.unusedVariables false
set_option linter.unusedSimpArgs false
theorem right_posA {m : Mc} (h : faultM m = 0) : PosA m.2 := fun q a ha => by
  have := arc_rightP h (el_in ha) ha
  exact ⟨this.1, this.2.2.1, this.2.2.2.2.1⟩
theorem expE_zero {a b : Mc} {t : Tr} (h : expE a b t = 0) : faultM a = 0 ∧ faultM b = 0 ∧ trB a b t = true ∧ expO a b t = false := by
  unfold expE at h
  split at h
  · rename_i g; exact absurd h g
  · split at h
    · rename_i g; exact absurd h g
    · split at h
      · exact absurd h (by decide)
      · split at h
        · exact absurd h (by decide)
        · rename_i g1 g2 g3 g4
          exact ⟨by simpa using g1, by simpa using g2, by simpa using g3, by simpa using g4⟩
theorem trB_nat {a b : Mc} {t : Tr} (h : trB a b t = true) : ∃ s r : Nat, t = ((s : Int), (r : Int), t.2.2) ∧ s < a.2.length ∧ r < b.2.length ∧ 0 ≤ t.2.2 ∧ t.2.2 ≤ 2 := by
  obtain ⟨x, y, f⟩ := t
  simp only [trB, inB, Bool.and_eq_true, decide_eq_true_eq] at h
  refine ⟨x.toNat, y.toNat, ?_, by omega, by omega, by simp only; omega, by simp only; omega⟩
  simp only [Prod.mk.injEq, and_true]
  omega
theorem CmpI.nat {a b : Mc} {L : List Tr} {S : List St} (h : CmpI a b L.length L S) {t : Tr} (ht : t ∈ L) : ∃ s r : Nat, t = ((s : Int), (r : Int), t.2.2) ∧ s < a.2.length ∧ r < b.2.length := by
  obtain ⟨i, hi, rfl⟩ := mem_el ht
  obtain ⟨s, r, h1, h2, h3, _⟩ := trB_nat (expE_zero (h.right i hi)).2.2.1
  exact ⟨s, r, h1, h2, h3⟩
theorem el_idx {L : List Tr} {t : Tr} (h : t ∈ L) : L.idxOf t < L.length ∧ el L (L.idxOf t) = t := by
  have h1 := List.idxOf_lt_length_iff.2 h
  exact ⟨h1, by rw [el_get h1]; exact List.getElem_idxOf h1⟩
theorem CmpI.zero {a b : Mc} {q : Nat} {L : List Tr} {S : List St} (h : CmpI a b q L S) : 0 < L.length ∧ el L 0 = (a.1, b.1, 0) := by
  obtain ⟨E, rfl⟩ := h.start
  exact ⟨by simp, by simp [el]⟩
/-- The ways of the composed machine are those along hops. -/
theorem CmpI.way {a b : Mc} {L : List Tr} {S : List St} (h : CmpI a b L.length L S) {za zb : Nat} (ea : a.1 = (za : Int)) (eb : b.1 = (zb : Int)) {u v : List Int} {p c : Nat} (hw : Way S 0 u v p c) :
    ∃ s t : Nat, ∃ f : Int, p < L.length ∧ el L p = ((s : Int), (t : Int), f) ∧ Hops a.2 b.2 za zb u v s t f c := by
  induction hw with
  | nil =>
    obtain ⟨h1, h2⟩ := h.zero
    exact ⟨za, zb, 0, h1, by rw [h2, ea, eb], .nil⟩
  | @snoc u v p c hw x hx r hr ih =>
    obtain ⟨s, t, f, hp, he, k⟩ := ih
    rw [h.sts p hp] at hx
    obtain ⟨g, hg, rfl⟩ := List.mem_map.1 hx
    have hin := h.shut p hp g hg
    obtain ⟨i1, i2⟩ := el_idx hin
    obtain ⟨s', t', e', _, _⟩ := h.nat hin
    simp only [arcTr] at hr ⊢
    have hr' : r = L.idxOf g.2.2.2 := by omega
    subst hr'
    refine ⟨s', t', g.2.2.2.2.2, i1, by rw [i2]; exact e', ?_⟩
    refine k.snoc (k := g) ?_ (by rw [e']) (by rw [e'])
    rw [he] at hg
    simpa [expT] using hg
theorem CmpI.hops {a b : Mc} {L : List Tr} {S : List St} (h : CmpI a b L.length L S) {za zb : Nat} (ea : a.1 = (za : Int)) (eb : b.1 = (zb : Int)) {u v : List Int} {s t c : Nat} {f : Int} (hw : Hops a.2 b.2 za zb u v s t f c) :
    ∃ p, p < L.length ∧ el L p = ((s : Int), (t : Int), f) ∧ Way S 0 u v p c := by
  induction hw with
  | nil =>
    obtain ⟨h1, h2⟩ := h.zero
    exact ⟨0, h1, by rw [h2, ea, eb], .nil⟩
  | @snoc u v s t c f hw g hg s' t' hs ht ih =>
    obtain ⟨p, hp, he, k⟩ := ih
    have hg' : g ∈ expT a b (el L p) := by rw [he]; simpa [expT] using hg
    have hin := h.shut p hp g hg'
    obtain ⟨i1, i2⟩ := el_idx hin
    refine ⟨L.idxOf g.2.2.2, i1, ?_, ?_⟩
    · rw [i2, ← hs, ← ht]
    · exact k.snoc (a := arcTr L g) (by rw [h.sts p hp]; exact List.mem_map.2 ⟨g, hg', rfl⟩) rfl
theorem CmpI.fin {a b : Mc} {L : List Tr} {S : List St} (h : CmpI a b L.length L S) {p s t : Nat} {f : Int} (hp : p < L.length) (he : el L p = ((s : Int), (t : Int), f)) :
    s < a.2.length ∧ t < b.2.length ∧ ((el S p).1 ≠ 1000000001 ↔ (el a.2 s).1 ≠ 1000000001 ∧ (el b.2 t).1 ≠ 1000000001) ∧ ((el S p).1 ≠ 1000000001 → (el S p).1.toNat = (el a.2 s).1.toNat + (el b.2 t).1.toNat) := by
  obtain ⟨fa, fb, h1, h2⟩ := expE_zero (h.right p hp)
  obtain ⟨s', t', e', hs, ht⟩ := h.nat (el_mem hp)
  rw [he] at e' h2
  simp only [Prod.mk.injEq] at e'
  have es : s' = s := by omega
  have et : t' = t := by omega
  subst es
  subst et
  rw [h.sts p hp, he]
  simp only [finTr, Int.toNat_natCast]
  simp only [expO, Int.toNat_natCast, Bool.or_eq_false_iff, Bool.and_eq_false_iff, bne_eq_false_iff_eq, decide_eq_false_iff_not] at h2
  refine ⟨hs, ht, ?_, ?_⟩
  · unfold bothI
    by_cases g1 : (el a.2 s').1 = 1000000001
    · simp [g1]
    · by_cases g2 : (el b.2 t').1 = 1000000001
      · simp [g2]
      · rw [if_neg (by simp [g1, g2])]
        rcases h2.1 with (k | k) | k
        · exact absurd k g1
        · exact absurd k g2
        · exact ⟨fun _ => ⟨g1, g2⟩, fun _ => by omega⟩
  · unfold bothI
    intro k
    by_cases g1 : (el a.2 s').1 = 1000000001
    · simp [g1] at k
    · by_cases g2 : (el b.2 t').1 = 1000000001
      · simp [g2] at k
      · rw [if_neg (by simp [g1, g2])]
        have := (fin_small fa hs g1).1
        have := (fin_small fb ht g2).1
        omega
/-- COMPOSED, x AND z COST WHAT A WORD BETWEEN COSTS. -/
theorem cmp_costs {a b x : Mc} (ha : faultM a = 0) (hb : faultM b = 0) (h1 : 0 ≤ a.1) (h2 : 0 ≤ b.1) (h : cpsA a b = (x, 0)) (u v : List Int) (c : Nat) : Costs x u v c ↔ ∃ y d e, Costs a u y d ∧ Costs b y v e ∧ c = d + e := by
  obtain ⟨hz, L, hI⟩ := cpsA_done ha hb h1 h2 h
  obtain ⟨xz, S⟩ := x
  simp only at hz hI
  subst hz
  have ea : a.1 = (a.1.toNat : Int) := by omega
  have eb : b.1 = (b.1.toNat : Int) := by omega
  constructor
  · rintro ⟨_, p, d, hw, hp, hn, rfl⟩
    obtain ⟨s, t, f, hpL, he, k⟩ := hI.way ea eb (by simpa using hw)
    obtain ⟨hs, ht, f1, f2⟩ := hI.fin hpL he
    obtain ⟨y, d1, d2, w1, w2, rfl⟩ := k.ways (right_posA ha) (right_posA hb)
    have f3 := f1.1 hn
    refine ⟨y, _, _, ⟨h1, s, d1, w1, hs, f3.1, rfl⟩, ⟨h2, t, d2, w2, ht, f3.2, rfl⟩, ?_⟩
    have := f2 hn
    simp only at this ⊢
    omega
  · rintro ⟨y, d, e, ⟨_, s, d1, w1, hs, n1, rfl⟩, ⟨_, t, d2, w2, ht, n2, rfl⟩, rfl⟩
    obtain ⟨f, k⟩ := (hops_iff (right_posA ha) (right_posA hb)).2 ⟨y, d1, d2, w1, w2, rfl⟩
    obtain ⟨p, hp, he, w⟩ := hI.hops ea eb k
    obtain ⟨_, _, f1, f2⟩ := hI.fin hp he
    have f3 := f1.2 ⟨n1, n2⟩
    refine ⟨by simp, p, d1 + d2, by simpa using w, by simp only; rw [hI.len]; exact hp, f3, ?_⟩
    have := f2 f3
    simp only at this ⊢
    omega
end Go.Proofs.YtfekmlblldhieaaGreatDoor.Pl
namespace Go.Proofs.YtfekmlblldhieaaGreatDoor.Pl
set_option linter.unusedVariables false
set_option linter.unusedSimpArgs false
section
variable {E : Nat → Nat → Nat → Prop}
theorem run_one {s w j : Nat} (e : E s w j) : Run E s 1 j w := by
  have h : Run E s (0 + 1) j (0 + w) := .step .nil e
  simpa using h
/-- From q to p for c; the states between are below k. -/
inductive Via (E : Nat → Nat → Nat → Prop) (k : Nat) : Nat → Nat → Nat → Prop
  | nil (q : Nat) : Via E k q q 0
  | arc {q w p : Nat} (e : E q w p) : Via E k q p w
  | step {q w j p c : Nat} (e : E q w j) (hj : j < k) (h : Via E k j p c) : Via E k q p (w + c)
theorem Via.mono {k k' q p c : Nat} (h : Via E k q p c) (hk : k ≤ k') : Via E k' q p c := by
  induction h with
  | nil q => exact .nil q
  | arc e => exact .arc e
  | step e hj _ ih => exact .step e (by omega) ih
theorem Via.run {k q p c : Nat} (h : Via E k q p c) : ∃ n, Run E q n p c := by
  induction h with
  | nil q => exact ⟨0, .nil⟩
  | arc e => exact ⟨1, run_one e⟩
  | step e _ _ ih =>
    obtain ⟨n, hn⟩ := ih
    exact ⟨n + 1, hn.first e⟩
theorem run_via {N : Nat} (hE : ∀ k w j, E k w j → j < N) : ∀ {n q p c : Nat}, Run E q n p c → Via E N q p c
  | 0, q, p, c, h => by cases h; exact .nil q
  | n + 1, q, p, c, h => by
    obtain ⟨j, w, c', e, h', rfl⟩ := h.head
    exact .step e (hE _ _ _ e) (run_via hE h')
theorem Via.split {k q p c : Nat} (h : Via E (k + 1) q p c) : Via E k q p c ∨ ∃ c1 c2, Via E k q k c1 ∧ Via E k k p c2 ∧ c1 + c2 ≤ c := by
  induction h with
  | nil q => exact .inl (.nil q)
  | arc e => exact .inl (.arc e)
  | @step q w j p c e hj h ih =>
    by_cases hjk : j < k
    · rcases ih with ih | ⟨c1, c2, h1, h2, h3⟩
      · exact .inl (.step e hjk ih)
      · exact .inr ⟨w + c1, c2, .step e hjk h1, h2, by omega⟩
    · obtain rfl : j = k := by omega
      rcases ih with ih | ⟨c1, c2, h1, h2, h3⟩
      · exact .inr ⟨w, c, .arc e, ih, Nat.le_refl _⟩
      · exact .inr ⟨w, c2, .arc e, h2, by omega⟩
theorem Via.joinAt {k q r p c1 c2 : Nat} (h : Via E k q r c1) (hr : r = k) (g : Via E k k p c2) : Via E (k + 1) q p (c1 + c2) := by
  induction h with
  | nil q => subst hr; rw [Nat.zero_add]; exact g.mono (by omega)
  | arc e => subst hr; exact .step e (by omega) (g.mono (by omega))
  | step e hj _ ih => rw [Nat.add_assoc]; exact .step e (by omega) (ih hr)
theorem Via.join {k q p c1 c2 : Nat} (h : Via E k q k c1) (g : Via E k k p c2) : Via E (k + 1) q p (c1 + c2) := h.joinAt rfl g
/-- The same with the first and the last place apart. -/
def EndsE (E : Nat → Nat → Nat → Prop) (k q p : Nat) (x w y : Nat) : Prop := (y < k ∧ ((x = k ∧ E q w y) ∨ (x < k ∧ E x w y))) ∨ (y = k + 1 ∧ ((x = k ∧ E q w p) ∨ (x < k ∧ E x w p)))
theorem via_ends {k q0 p : Nat} : ∀ {x c : Nat}, Via E k x p c → (x = p ∧ c = 0) ∨ ∀ X, (X = k ∧ x = q0) ∨ (X < k ∧ X = x) → ∃ n, Run (EndsE E k q0 p) X n (k + 1) c := by
  intro x c h
  induction h with
  | nil q => exact .inl ⟨rfl, rfl⟩
  | @arc x w p e =>
    exact .inr fun X hX => ⟨1, run_one (.inr ⟨rfl, by rcases hX with ⟨h1, rfl⟩ | ⟨h1, rfl⟩; exact .inl ⟨h1, e⟩; exact .inr ⟨h1, e⟩⟩)⟩
  | @step x w j p c e hj h ih =>
    refine .inr fun X hX => ?_
    rcases ih with ⟨rfl, rfl⟩ | ih
    · exact ⟨1, run_one (.inr ⟨rfl, by rcases hX with ⟨h1, rfl⟩ | ⟨h1, rfl⟩; exact .inl ⟨h1, e⟩; exact .inr ⟨h1, e⟩⟩)⟩
    · obtain ⟨n, hn⟩ := ih j (.inr ⟨hj, rfl⟩)
      exact ⟨n + 1, hn.first (.inl ⟨hj, by rcases hX with ⟨h1, rfl⟩ | ⟨h1, rfl⟩; exact .inl ⟨h1, e⟩; exact .inr ⟨h1, e⟩⟩)⟩
theorem ends_via {k q0 p : Nat} : ∀ {n X c : Nat}, Run (EndsE E k q0 p) X n (k + 1) c → ∀ x, (X = k ∧ x = q0) ∨ (X < k ∧ X = x) → Via E k x p c
  | 0, X, c, h, x, hX => by cases h; omega
  | n + 1, X, c, h, x, hX => by
    obtain ⟨j, w, c', e, h', rfl⟩ := h.head
    rcases e with ⟨hj, he⟩ | ⟨rfl, he⟩
    · have e' : E x w j := by
        rcases he with ⟨h1, he⟩ | ⟨h1, he⟩ <;> rcases hX with ⟨h2, rfl⟩ | ⟨h2, rfl⟩
        · exact he
        · omega
        · omega
        · exact he
      exact .step e' hj (ends_via h' j (.inr ⟨hj, rfl⟩))
    · have e' : E x w p := by
        rcases he with ⟨h1, he⟩ | ⟨h1, he⟩ <;> rcases hX with ⟨h2, rfl⟩ | ⟨h2, rfl⟩
        · exact he
        · omega
        · omega
        · exact he
      cases n with
      | zero => cases h'; exact .arc e'
      | succ n =>
        obtain ⟨j, w', c'', e'', _⟩ := h'.head
        rcases e'' with ⟨_, ⟨h1, _⟩ | ⟨h1, _⟩⟩ | ⟨_, ⟨h1, _⟩ | ⟨h1, _⟩⟩ <;> omega
theorem Via.cheap {W k q p c : Nat} (hW : ∀ x w y, E x w y → w ≤ W) (h : Via E k q p c) : ∃ d, d ≤ c ∧ d ≤ (k + 1) * W ∧ Via E k q p d := by
  rcases via_ends (q0 := q) h with ⟨rfl, rfl⟩ | h1
  · exact ⟨0, Nat.le_refl _, Nat.zero_le _, .nil _⟩
  · obtain ⟨n, hn⟩ := h1 k (.inl ⟨rfl, rfl⟩)
    obtain ⟨m, d, hm, hd, hr⟩ := hn.cheap (N := k + 2) (by omega) (fun x w y e => by rcases e with ⟨h, _⟩ | ⟨h, _⟩ <;> omega)
    have hc := hr.cost (W := W) (fun x w y e => by rcases e with ⟨_, ⟨_, e⟩ | ⟨_, e⟩⟩ | ⟨_, ⟨_, e⟩ | ⟨_, e⟩⟩ <;> exact hW _ _ _ e)
    exact ⟨d, hd, Nat.le_trans hc (Nat.mul_le_mul_right _ (by omega)), ends_via hr q (.inl ⟨rfl, rfl⟩)⟩
/-- The least through states below k, or none. -/
def LstV (E : Nat → Nat → Nat → Prop) (k q p : Nat) (b : Int) : Prop := (b = noneI ∧ ∀ c, ¬ Via E k q p c) ∨ ∃ c : Nat, LeastP (Via E k q p) c ∧ b = (c : Int) ∧ c ≤ (k + 1) * 1000000000
theorem LstV.one {k q p : Nat} {a b : Int} (h : LstV E k q p a) (g : LstV E k q p b) : a = b := by
  rcases h with ⟨rfl, h⟩ | ⟨c, h, rfl, _⟩ <;> rcases g with ⟨rfl, g⟩ | ⟨d, g, rfl, _⟩
  · rfl
  · exact absurd g.1 (h _)
  · exact absurd h.1 (g _)
  · rw [h.one g]
theorem LstV.mk {k q p : Nat} {b : Int} (hW : ∀ x w y, E x w y → w ≤ 1000000000) (h1 : b = noneI ∨ ∃ c : Nat, Via E k q p c ∧ b = (c : Int)) (h2 : ∀ c, Via E k q p c → b ≤ (c : Int)) (hk : k ≤ 60) : LstV E k q p b := by
  rcases h1 with rfl | ⟨c, hc, rfl⟩
  · refine .inl ⟨rfl, fun c hc => ?_⟩
    obtain ⟨d, _, hd, hv⟩ := hc.cheap hW
    have h3 := h2 d hv
    have : (k + 1) * 1000000000 ≤ 61 * 1000000000 := Nat.mul_le_mul_right _ (by omega)
    unfold noneI at h3
    omega
  · have hle : ∀ d, Via E k q p d → c ≤ d := fun d hd => by have := h2 d hd; omega
    obtain ⟨d, _, hd, hv⟩ := hc.cheap hW
    exact .inr ⟨c, ⟨hc, hle⟩, rfl, Nat.le_trans (hle d hv) hd⟩
theorem LstV.le {k q p c : Nat} {b : Int} (h : LstV E k q p b) (hc : Via E k q p c) : b ≤ (c : Int) := by
  rcases h with ⟨_, h⟩ | ⟨d, h, rfl, _⟩
  · exact absurd hc (h c)
  · have := h.2 c hc; omega
theorem LstV.has {k q p : Nat} {b : Int} (h : LstV E k q p b) : b = noneI ∨ ∃ c : Nat, Via E k q p c ∧ b = (c : Int) := by
  rcases h with ⟨h, _⟩ | ⟨d, h, e, _⟩
  · exact .inl h
  · exact .inr ⟨d, h.1, e⟩
theorem LstV.bd {k q p : Nat} {b : Int} (h : LstV E k q p b) (hk : k ≤ 60) : 0 ≤ b ∧ (b = noneI ∨ b ≤ 61000000000) := by
  rcases h with ⟨h, _⟩ | ⟨d, h, e, hd⟩
  · exact ⟨by rw [h]; decide, .inl h⟩
  · have : (k + 1) * 1000000000 ≤ 61 * 1000000000 := Nat.mul_le_mul_right _ (by omega)
    exact ⟨by omega, .inr (by omega)⟩
/-- One state more between. -/
theorem LstV.step {k q p : Nat} {a b c : Int} (hW : ∀ x w y, E x w y → w ≤ 1000000000) (hk : k + 1 ≤ 60) (ha : LstV E k q p a) (hb : LstV E k q k b) (hc : LstV E k k p c) : LstV E (k + 1) q p (if b ≠ noneI ∧ c ≠ noneI ∧ b + c < a then b + c else a) := by
  have ba := ha.bd (by omega)
  have bb := hb.bd (by omega)
  have bc := hc.bd (by omega)
  refine LstV.mk hW ?_ (fun d hd => ?_) hk
  · by_cases h : b ≠ noneI ∧ c ≠ noneI ∧ b + c < a
    · rw [if_pos h]
      rcases hb.has with hb' | ⟨x, hx, rfl⟩
      · exact absurd hb' h.1
      rcases hc.has with hc' | ⟨y, hy, rfl⟩
      · exact absurd hc' h.2.1
      exact .inr ⟨x + y, hx.join hy, by omega⟩
    · rw [if_neg h]
      rcases ha.has with ha' | ⟨x, hx, rfl⟩
      · exact .inl ha'
      · exact .inr ⟨x, hx.mono (by omega), rfl⟩
  · rcases hd.split with h | ⟨c1, c2, h1, h2, h3⟩
    · have := ha.le h
      split <;> omega
    · have e1 := hb.le h1
      have e2 := hc.le h2
      by_cases h : b ≠ noneI ∧ c ≠ noneI ∧ b + c < a
      · rw [if_pos h]; omega
      · rw [if_neg h]
        rcases hb.has with hb' | ⟨x, hx, hbx⟩
        · rcases hb with ⟨_, hn⟩ | ⟨y, hy, hye, hyb⟩
          · exact absurd h1 (hn _)
          · rw [hye] at hb'; have : (k + 1) * 1000000000 ≤ 61 * 1000000000 := Nat.mul_le_mul_right _ (by omega)
            unfold noneI at hb'; omega
        rcases hc with ⟨_, hn⟩ | ⟨y, hy, hye, hyb⟩
        · exact absurd h2 (hn _)
        · have hcn : c ≠ noneI := by
            have : (k + 1) * 1000000000 ≤ 61 * 1000000000 := Nat.mul_le_mul_right _ (by omega)
            unfold noneI; omega
          have hbn : b ≠ noneI := by
            rcases hb with ⟨_, hn⟩ | ⟨y', hy', hye', hyb'⟩
            · exact absurd h1 (hn _)
            · have : (k + 1) * 1000000000 ≤ 61 * 1000000000 := Nat.mul_le_mul_right _ (by omega)
              unfold noneI; omega
          have : ¬ b + c < a := fun g => h ⟨hbn, hcn, g⟩
          omega
theorem LstV.colK {k q : Nat} {b : Int} (hW : ∀ x w y, E x w y → w ≤ 1000000000) (hk : k + 1 ≤ 60) (h : LstV E (k + 1) q k b) : LstV E k q k b := by
  refine LstV.mk hW ?_ (fun c hc => h.le (hc.mono (by omega))) (by omega)
  rcases h.has with h' | ⟨c, hc, rfl⟩
  · exact .inl h'
  · refine .inr ⟨c, ?_, rfl⟩
    rcases hc.split with g | ⟨c1, c2, h1, h2, h3⟩
    · exact g
    · have := h.le (h1.mono (show k ≤ k + 1 by omega))
      have e : c1 = c := by omega
      rw [← e]; exact h1
theorem LstV.rowK {k p : Nat} {b : Int} (hW : ∀ x w y, E x w y → w ≤ 1000000000) (hk : k + 1 ≤ 60) (h : LstV E (k + 1) k p b) : LstV E k k p b := by
  refine LstV.mk hW ?_ (fun c hc => h.le (hc.mono (by omega))) (by omega)
  rcases h.has with h' | ⟨c, hc, rfl⟩
  · exact .inl h'
  · refine .inr ⟨c, ?_, rfl⟩
    rcases hc.split with g | ⟨c1, c2, h1, h2, h3⟩
    · exact g
    · have := h.le (h2.mono (show k ≤ k + 1 by omega))
      have e : c2 = c := by omega
      rw [← e]; exact h2
end
end Go.Proofs.YtfekmlblldhieaaGreatDoor.Pl
namespace Go.Proofs.YtfekmlblldhieaaGreatDoor.Pl
section
variable {α : Type} [Inhabited α]
theorem el_set {l : List α} {q j : Nat} {s : α} (hj : j < l.length) : el (l.set q s) j = if q = j then s else el l j := by
  rw [el_get (by simpa using hj), el_get hj, List.getElem_set]
theorem all_set_same {l : List α} {q : Nat} {s : α} {p : α → Bool} (h : q < l.length) (hp : p s = p (el l q)) : (l.set q s).all p = l.all p := by
  rw [Bool.eq_iff_iff, List.all_eq_true, List.all_eq_true]
  constructor
  · intro g a ha
    obtain ⟨j, hj, rfl⟩ := mem_el ha
    have h1 := g _ (el_mem (l := l.set q s) (j := j) (by simpa using hj))
    rw [el_set hj] at h1
    split at h1
    · rename_i e; subst e; rw [← hp]; exact h1
    · exact h1
  · intro g a ha
    obtain ⟨j, hj, rfl⟩ := mem_el ha
    have hj' : j < l.length := by simpa using hj
    rw [el_set hj']
    split
    · rename_i e; subst e; rw [hp]; exact g _ (el_mem h)
    · exact g _ (el_mem hj')
theorem all_set_false {l : List α} {q : Nat} {s : α} {p : α → Bool} (h : q < l.length) (hp : p s = false) : (l.set q s).all p = false :=
  all_false_el (k := q) (by simpa using h) (by rw [el_set h, if_pos rfl]; exact hp)
end
theorem arcN_set {l : List St} {q : Nat} {s : St} (h : q < l.length) : arcN (l.set q s) + (el l q).2.length = arcN l + s.2.length := by
  induction l generalizing q with
  | nil => simp at h
  | cons t l ih =>
    cases q with
    | zero => rw [el_zero]; simp [arcN]; omega
    | succ q => rw [el_succ]; have := ih (q := q) (by simpa using h); simp [arcN]; omega
/-- One state with one arc more that may be: still a right machine, if there is room. -/
theorem right_set {z : Int} {l : List St} {q : Nat} {b : Ar} (h : faultM (z, l) = 0) (hq : q < l.length) (hb : arcB l.length b = true) (hroom : arcN l + 1 ≤ 400) : faultM (z, l.set q ((el l q).1, (el l q).2 ++ [b])) = 0 := by
  obtain ⟨h1, h2⟩ := faultM_zero h
  refine faultM_ok ?_ ?_
  · have h3 := arcN_set (s := ((el l q).1, (el l q).2 ++ [b])) hq
    simp only [List.length_append, List.length_cons, List.length_nil] at h3
    simp only [sizeB, Bool.and_eq_true, decide_eq_true_eq, List.length_set] at h1 ⊢
    omega
  · simp only [rangeB, Bool.and_eq_true, List.length_set] at h2 ⊢
    refine ⟨h2.1, ?_⟩
    rw [all_set_same hq]
    · exact h2.2
    · have h4 : stB l.length (el l q) = true := List.all_eq_true.1 h2.2 _ (el_mem hq)
      rw [h4]
      simp only [stB, Bool.and_eq_true, List.all_append, List.all_cons, List.all_nil, Bool.and_true] at h4 ⊢
      exact ⟨h4.1, h4.2, hb⟩
theorem once_twice {l : List Ar} (h : 0 < l.length) : onceB (l ++ [el l 0]) = false := by
  rcases bool_cases' (onceB (l ++ [el l 0])) with g | g
  · have h1 := onceB_iff.1 g l.length (by simp) 0 h
    rw [el_last, el_left h] at h1
    have h2 : pairB (el l 0) (el l 0) = true := pairB_iff.2 ⟨rfl, rfl⟩
    rw [h2] at h1; cases h1
  · exact g
theorem all_again {l : List Ar} (p : Ar → Bool) (h : 0 < l.length) : (l ++ [el l 0]).all p = l.all p := by
  simp only [List.all_append, List.all_cons, List.all_nil, Bool.and_true]
  rcases bool_cases' (l.all p) with g | g
  · rw [g, List.all_eq_true.1 g _ (el_mem h)]; rfl
  · rw [g]; rfl
end Go.Proofs.YtfekmlblldhieaaGreatDoor.Pl
namespace Go.Proofs.YtfekmlblldhieaaGreatDoor.Pl
set_option linter.unusedVariables false
set_option linter.unusedSimpArgs false
def empA (a : Ar) : Bool := decide (a.1 = 0) && decide (a.2.1 = 0)
theorem empA_iff {a : Ar} : empA a = true ↔ a.1 = 0 ∧ a.2.1 = 0 := by simp [empA]
def EmpE (l : List St) (k w j : Nat) : Prop := ∃ a ∈ (el l k).2, empA a = true ∧ a.2.2.2 = (j : Int) ∧ w = a.2.2.1.toNat
def HopC (l : List St) (q p c : Nat) : Prop := ∃ n, Run (EmpE l) q n p c
/-- What the least hops cost. -/
def HopT (m : Mc) (H : Nat → Nat → Int) : Prop := ∀ q p, q < m.2.length → p < m.2.length → TldQ (HopC m.2 q p) (H q p)
theorem emp_arc {l : List St} {k w j : Nat} (h : EmpE l k w j) : ArcE l k w j := by
  obtain ⟨a, h1, _, h2, h3⟩ := h
  exact ⟨a, h1, h2, h3⟩
theorem emp_small {m : Mc} (h : faultM m = 0) {k w j : Nat} (e : EmpE m.2 k w j) : j < m.2.length ∧ w ≤ 1000000000 := arcE_small h (emp_arc e)
theorem LstV.told {m : Mc} (h : faultM m = 0) {q p : Nat} {b : Int} (hb : LstV (EmpE m.2) m.2.length q p b) : TldQ (HopC m.2 q p) b := by
  have h60 := (right_size (z := m.1) (l := m.2) h).1
  have e1 : ∀ c, HopC m.2 q p c → Via (EmpE m.2) m.2.length q p c := fun c ⟨n, hn⟩ => run_via (fun k w j e => (emp_small h e).1) hn
  rcases hb with ⟨rfl, hb⟩ | ⟨c, hc, rfl, hl⟩
  · exact .inl ⟨rfl, fun c hc => hb c (e1 c hc)⟩
  · have : (m.2.length + 1) * 1000000000 ≤ 61 * 1000000000 := Nat.mul_le_mul_right _ (by omega)
    exact .inr ⟨c, ⟨hc.1.run, fun d hd => hc.2 d (e1 d hd)⟩, rfl, by omega⟩
theorem TldQ.one {P : Nat → Prop} {a b : Int} (h : TldQ P a) (g : TldQ P b) : a = b := by
  rcases h with ⟨rfl, h⟩ | ⟨c, h, rfl, _⟩ <;> rcases g with ⟨rfl, g⟩ | ⟨d, g, rfl, _⟩
  · rfl
  · exact absurd g.1 (h _)
  · exact absurd h.1 (g _)
  · rw [h.one g]
theorem least_of {P : Nat → Prop} {c : Nat} (h : P c) : ∃ d, LeastP P d := by
  induction c using Nat.strongRecOn with
  | _ c ih =>
    by_cases g : ∃ d, d < c ∧ P d
    · obtain ⟨d, h1, h2⟩ := g
      exact ih d h1 h2
    · exact ⟨c, h, fun d hd => by
        rcases Nat.lt_or_ge d c with h1 | h1
        · exact absurd ⟨d, h1, hd⟩ g
        · exact h1⟩
theorem hop_told {m : Mc} (h : faultM m = 0) (q p : Nat) : ∃ b, TldQ (HopC m.2 q p) b := by
  have h60 := (right_size (z := m.1) (l := m.2) h).1
  by_cases g : ∃ c, HopC m.2 q p c
  · obtain ⟨c, hc⟩ := g
    obtain ⟨d, hd⟩ := least_of hc
    obtain ⟨n, hn⟩ := hd.1
    obtain ⟨d', _, h2, h3⟩ := (run_via (fun k w j e => (emp_small h e).1) hn).cheap (W := 1000000000) (fun x w y e => (emp_small h e).2)
    have h4 := hd.2 d' h3.run
    have : (m.2.length + 1) * 1000000000 ≤ 61 * 1000000000 := Nat.mul_le_mul_right _ (by omega)
    exact ⟨(d : Int), .inr ⟨d, hd, rfl, by omega⟩⟩
  · exact ⟨noneI, .inl ⟨rfl, fun c hc => g ⟨c, hc⟩⟩⟩
theorem hopT_exists {m : Mc} (h : faultM m = 0) : ∃ H, HopT m H := ⟨fun q p => Classical.choose (hop_told h q p), fun q p _ _ => Classical.choose_spec (hop_told h q p)⟩
theorem TldQ.bd {P : Nat → Prop} {b : Int} (h : TldQ P b) : 0 ≤ b ∧ (b = noneI ∨ b ≤ 100000000000) := by
  rcases h with ⟨rfl, _⟩ | ⟨c, _, rfl, hc⟩
  · exact ⟨by decide, .inl rfl⟩
  · exact ⟨by omega, .inr (by omega)⟩
/-- A row behind j arcs of its state. -/
def RowI (l : List St) (q j : Nat) (row : List Int) : Prop := row.length = l.length ∧ ∀ p, p < l.length → (el row p = noneI ∨ ∃ c : Nat, Via (EmpE l) 0 q p c ∧ el row p = (c : Int)) ∧ (q = p → el row p ≤ 0) ∧ ∀ i, i < j → empA (el (el l q).2 i) = true → (el (el l q).2 i).2.2.2 = (p : Int) → el row p ≤ (el (el l q).2 i).2.2.1
theorem rowI_start {l : List St} {q : Nat} (hq : q < l.length) : RowI l q 0 ((List.replicate l.length noneI).set q 0) := by
  refine ⟨by simp, fun p hp => ?_⟩
  rw [el_set (by simpa using hp)]
  by_cases e : q = p
  · subst e
    rw [if_pos rfl]
    exact ⟨.inr ⟨0, .nil q, rfl⟩, fun _ => Int.le_refl _, fun i hi => by omega⟩
  · rw [if_neg e, el_replicateT hp]
    exact ⟨.inl rfl, fun h => absurd h e, fun i hi => by omega⟩
theorem rowI_skip {l : List St} {q j : Nat} {row : List Int} (h : RowI l q j row) (hn : empA (el (el l q).2 j) = false ∨ ∀ p, p < l.length → (el (el l q).2 j).2.2.2 = (p : Int) → el row p ≤ (el (el l q).2 j).2.2.1) : RowI l q (j + 1) row := by
  refine ⟨h.1, fun p hp => ⟨(h.2 p hp).1, (h.2 p hp).2.1, fun i hi h1 h2 => ?_⟩⟩
  by_cases e : i = j
  · subst e
    rcases hn with hn | hn
    · rw [hn] at h1; cases h1
    · exact hn p hp h2
  · exact (h.2 p hp).2.2 i (by omega) h1 h2
theorem rowI_set {l : List St} {q j t : Nat} {row : List Int} (h : RowI l q j row) (hj : j < (el l q).2.length) (he : empA (el (el l q).2 j) = true) (ht : (el (el l q).2 j).2.2.2 = (t : Int)) (htl : t < l.length) (h0 : 0 ≤ (el (el l q).2 j).2.2.1) (hl : (el (el l q).2 j).2.2.1 < el row t) : RowI l q (j + 1) (row.set t (el (el l q).2 j).2.2.1) := by
  refine ⟨by rw [List.length_set]; exact h.1, fun p hp => ?_⟩
  rw [el_set (by rw [h.1]; exact hp)]
  by_cases e : t = p
  · subst e
    rw [if_pos rfl]
    refine ⟨.inr ⟨(el (el l q).2 j).2.2.1.toNat, .arc ⟨_, el_mem hj, he, ht, rfl⟩, by omega⟩, fun hq => ?_, fun i hi h1 h2 => ?_⟩
    · have := (h.2 t hp).2.1 hq; omega
    · by_cases ei : i = j
      · subst ei; exact Int.le_refl _
      · have := (h.2 t hp).2.2 i (by omega) h1 h2; omega
  · rw [if_neg e]
    refine ⟨(h.2 p hp).1, (h.2 p hp).2.1, fun i hi h1 h2 => ?_⟩
    by_cases ei : i = j
    · subst ei; rw [ht] at h2; omega
    · exact (h.2 p hp).2.2 i (by omega) h1 h2
theorem rowI_end {m : Mc} (hr : faultM m = 0) {q : Nat} {row : List Int} (h : RowI m.2 q (el m.2 q).2.length row) {p : Nat} (hp : p < m.2.length) (hq : q < m.2.length) : LstV (EmpE m.2) 0 q p (el row p) := by
  refine LstV.mk (fun x w y e => (emp_small hr e).2) (h.2 p hp).1 (fun c hc => ?_) (by omega)
  cases hc with
  | nil => exact (h.2 _ hp).2.1 rfl
  | arc e =>
    obtain ⟨a, ha, he, ht, hw⟩ := e
    obtain ⟨i, hi, rfl⟩ := List.getElem_of_mem ha
    rw [← el_get hi] at he ht hw
    have h1 := (h.2 p hp).2.2 i hi he ht
    have h3 := (right_parts hr).2 (el m.2 q) (el_mem hq)
    simp only [stB, Bool.and_eq_true, List.all_eq_true] at h3
    have h4 := h3.2 _ (el_mem hi)
    simp only [arcB, inB, Bool.and_eq_true, decide_eq_true_eq] at h4
    omega
  | step e hj _ => omega
/-- The table in round k, ahead of place q, p. -/
def FwQ (l : List St) (k q p : Nat) (d : List (List Int)) : Prop := d.length = l.length ∧ (∀ q', q' < l.length → (el d q').length = l.length) ∧ ∀ q' p', q' < l.length → p' < l.length → LstV (EmpE l) (if q' < q ∨ (q' = q ∧ p' < p) then k + 1 else k) q' p' (el (el d q') p')
theorem fw_row {l : List St} {k q : Nat} {d : List (List Int)} (h : FwQ l k q l.length d) : FwQ l k (q + 1) 0 d := by
  refine ⟨h.1, h.2.1, fun q' p' h1 h2 => ?_⟩
  have h3 := h.2.2 q' p' h1 h2
  by_cases e : q' < q ∨ (q' = q ∧ p' < l.length)
  · rw [if_pos e] at h3; rw [if_pos (by omega)]; exact h3
  · rw [if_neg e] at h3; rw [if_neg (by omega)]; exact h3
theorem fw_round {l : List St} {k : Nat} {d : List (List Int)} (h : FwQ l k l.length 0 d) : FwQ l (k + 1) 0 0 d := by
  refine ⟨h.1, h.2.1, fun q' p' h1 h2 => ?_⟩
  have h3 := h.2.2 q' p' h1 h2
  rw [if_pos (.inl h1)] at h3
  rw [if_neg (by omega)]
  exact h3
theorem fw_end {m : Mc} (hr : faultM m = 0) {d : List (List Int)} (h : FwQ m.2 m.2.length 0 0 d) : HopT m (fun q p => el (el d q) p) := fun q p hq hp => by
  have h3 := h.2.2 q p hq hp
  rw [if_neg (by omega)] at h3
  exact h3.told hr
theorem FwQ.at {m : Mc} (hr : faultM m = 0) {k q p : Nat} {d : List (List Int)} (h : FwQ m.2 k q p d) (hk : k < m.2.length) (hq : q < m.2.length) (hp : p < m.2.length) : LstV (EmpE m.2) k q p (el (el d q) p) ∧ LstV (EmpE m.2) k q k (el (el d q) k) ∧ LstV (EmpE m.2) k k p (el (el d k) p) := by
  have h60 := (right_size (z := m.1) (l := m.2) hr).1
  have hW : ∀ x w y, EmpE m.2 x w y → w ≤ 1000000000 := fun x w y e => (emp_small hr e).2
  refine ⟨?_, ?_, ?_⟩
  · have h3 := h.2.2 q p hq hp
    rw [if_neg (by omega)] at h3; exact h3
  · have h3 := h.2.2 q k hq hk
    by_cases e : q < q ∨ (q = q ∧ k < p)
    · rw [if_pos e] at h3; exact h3.colK hW (by omega)
    · rw [if_neg e] at h3; exact h3
  · have h3 := h.2.2 k p hk hp
    by_cases e : k < q ∨ (k = q ∧ p < p)
    · rw [if_pos e] at h3; exact h3.rowK hW (by omega)
    · rw [if_neg e] at h3; exact h3
theorem FwQ.bd {m : Mc} (hr : faultM m = 0) {k q p : Nat} {d : List (List Int)} (h : FwQ m.2 k q p d) (hk : k < m.2.length) {q' p' : Nat} (hq : q' < m.2.length) (hp : p' < m.2.length) : 0 ≤ el (el d q') p' ∧ (el (el d q') p' = noneI ∨ el (el d q') p' ≤ 61000000000) := by
  have h60 := (right_size (z := m.1) (l := m.2) hr).1
  exact (h.2.2 q' p' hq hp).bd (by split <;> omega)
def putD (d : List (List Int)) (q p : Nat) (v : Int) : List (List Int) := d.set q ((el d q).set p v)
theorem fw_same {m : Mc} (hr : faultM m = 0) {k q p : Nat} {d : List (List Int)} (h : FwQ m.2 k q p d) (hk : k < m.2.length) (hq : q < m.2.length) (hp : p < m.2.length) (hn : ¬ (el (el d q) k ≠ noneI ∧ el (el d k) p ≠ noneI ∧ el (el d q) k + el (el d k) p < el (el d q) p)) : FwQ m.2 k q (p + 1) d := by
  have h60 := (right_size (z := m.1) (l := m.2) hr).1
  obtain ⟨a, b, c⟩ := h.at hr hk hq hp
  have s := LstV.step (fun x w y e => (emp_small hr e).2) (by omega) a b c
  rw [if_neg hn] at s
  refine ⟨h.1, h.2.1, fun q' p' h1 h2 => ?_⟩
  by_cases e : q' = q ∧ p' = p
  · obtain ⟨rfl, rfl⟩ := e
    rw [if_pos (.inr ⟨rfl, by omega⟩)]; exact s
  · have h3 := h.2.2 q' p' h1 h2
    by_cases e2 : q' < q ∨ (q' = q ∧ p' < p)
    · rw [if_pos e2] at h3; rw [if_pos (by omega)]; exact h3
    · rw [if_neg e2] at h3; rw [if_neg (by omega)]; exact h3
theorem fw_less {m : Mc} (hr : faultM m = 0) {k q p : Nat} {d : List (List Int)} (h : FwQ m.2 k q p d) (hk : k < m.2.length) (hq : q < m.2.length) (hp : p < m.2.length) (hn : el (el d q) k ≠ noneI ∧ el (el d k) p ≠ noneI ∧ el (el d q) k + el (el d k) p < el (el d q) p) : FwQ m.2 k q (p + 1) (putD d q p (el (el d q) k + el (el d k) p)) := by
  have h60 := (right_size (z := m.1) (l := m.2) hr).1
  obtain ⟨a, b, c⟩ := h.at hr hk hq hp
  have s := LstV.step (fun x w y e => (emp_small hr e).2) (by omega) a b c
  rw [if_pos hn] at s
  unfold putD
  refine ⟨by rw [List.length_set]; exact h.1, fun q' hq' => ?_, fun q' p' h1 h2 => ?_⟩
  · rw [el_set (by rw [h.1]; exact hq')]
    split
    · rw [List.length_set]; exact h.2.1 q hq
    · exact h.2.1 q' hq'
  · rw [el_set (by rw [h.1]; exact h1)]
    by_cases eq : q = q'
    · subst eq
      rw [if_pos rfl, el_set (by rw [h.2.1 q hq]; exact h2)]
      by_cases ep : p = p'
      · subst ep
        rw [if_pos rfl, if_pos (.inr ⟨rfl, by omega⟩)]; exact s
      · rw [if_neg ep]
        have h3 := h.2.2 q p' h1 h2
        by_cases e2 : q < q ∨ (q = q ∧ p' < p)
        · rw [if_pos e2] at h3; rw [if_pos (by omega)]; exact h3
        · rw [if_neg e2] at h3; rw [if_neg (by omega)]; exact h3
    · rw [if_neg eq]
      have h3 := h.2.2 q' p' h1 h2
      by_cases e2 : q' < q ∨ (q' = q ∧ p' < p)
      · rw [if_pos e2] at h3; rw [if_pos (by omega)]; exact h3
      · rw [if_neg e2] at h3; rw [if_neg (by omega)]; exact h3
/-- Rows that are all there. -/
def RowsT (l : List St) (q : Nat) (d : List (List Int)) : Prop := d.length = q ∧ ∀ q', q' < q → RowI l q' (el l q').2.length (el d q')
theorem rowsT_snoc {l : List St} {q : Nat} {d : List (List Int)} {row : List Int} (h : RowsT l q d) (hr : RowI l q (el l q).2.length row) : RowsT l (q + 1) (d ++ [row]) := by
  refine ⟨by simp [h.1], fun q' hq' => ?_⟩
  by_cases e : q' < q
  · rw [el_left (by rw [h.1]; exact e)]; exact h.2 q' e
  · obtain rfl : q' = q := by omega
    rw [← h.1, el_last, h.1]; exact hr
theorem fw_start {m : Mc} (hr : faultM m = 0) {d : List (List Int)} (h : RowsT m.2 m.2.length d) : FwQ m.2 0 0 0 d := by
  refine ⟨h.1, fun q' hq' => (h.2 q' hq').1, fun q' p' h1 h2 => ?_⟩
  rw [if_neg (by omega)]
  exact rowI_end hr (h.2 q' h1) h2 h1
end Go.Proofs.YtfekmlblldhieaaGreatDoor.Pl
namespace Go.Proofs.YtfekmlblldhieaaGreatDoor.Pl
theorem ahead_irrefl (a : Ar) : aheadB a a = false := by rw [aheadB_false]; omega
theorem ahead_lt {a b c : Ar} (h1 : aheadB a b = true) (h2 : aheadB b c = true) : aheadB a c = true := by
  rw [aheadB_iff] at *; omega
theorem ahead_asymm {a b : Ar} (h1 : aheadB a b = true) : aheadB b a = false := by
  rw [aheadB_iff] at h1; rw [aheadB_false]; omega
theorem ahead_same {a b : Ar} (h1 : aheadB a b = false) (h2 : aheadB b a = false) : a = b := by
  obtain ⟨a0, a1, a2, a3⟩ := a
  obtain ⟨b0, b1, b2, b3⟩ := b
  rw [aheadB_false] at *
  simp only at h1 h2
  have e0 : a0 = b0 := by omega
  have e1 : a1 = b1 := by omega
  have e2 : a2 = b2 := by omega
  have e3 : a3 = b3 := by omega
  rw [e0, e1, e2, e3]
/-- In order: none stands ahead of one that lies before it. -/
def leB (a b : Ar) : Bool := !aheadB b a
def sortL (l : List Ar) : List Ar := l.mergeSort leB
theorem leB_trans (a b c : Ar) (h1 : leB a b = true) (h2 : leB b c = true) : leB a c = true := by
  simp only [leB, Bool.not_eq_true'] at *
  exact ahead_trans h1 h2
theorem leB_total (a b : Ar) : (leB a b || leB b a) = true := by
  simp only [leB, Bool.or_eq_true, Bool.not_eq_true']
  rcases bool_cases' (aheadB b a) with h | h
  · exact .inr (ahead_asymm h)
  · exact .inl h
theorem sortL_perm (l : List Ar) : (sortL l).Perm l := List.mergeSort_perm _ _
theorem sortL_length (l : List Ar) : (sortL l).length = l.length := (sortL_perm l).length_eq
theorem sortL_pair (l : List Ar) : (sortL l).Pairwise fun a b => leB a b = true := List.pairwise_mergeSort leB_trans leB_total l
/-- There is but one. -/
theorem sortL_one {l r : List Ar} (hp : r.Perm l) (hr : r.Pairwise fun a b => leB a b = true) : r = sortL l := by
  refine List.Perm.eq_of_pairwise (le := fun x y => leB x y = true) ?_ hr (sortL_pair l) (hp.trans (sortL_perm l).symm)
  intro a b _ _ h1 h2
  simp only [leB, Bool.not_eq_true'] at h1 h2
  exact ahead_same h2 h1
/-- One arc put where it belongs. -/
def placeL : List Ar → Ar → List Ar
  | [], a => [a]
  | x :: l, a => if aheadB a x = true then a :: x :: l else x :: placeL l a
theorem placeL_perm (l : List Ar) (a : Ar) : (placeL l a).Perm (a :: l) := by
  induction l with
  | nil => exact List.Perm.refl _
  | cons x l ih =>
    simp only [placeL]
    split
    · exact List.Perm.refl _
    · exact (List.Perm.cons x ih).trans (List.Perm.swap a x l)
theorem placeL_length (l : List Ar) (a : Ar) : (placeL l a).length = l.length + 1 := by simpa using (placeL_perm l a).length_eq
theorem placeL_pair {l : List Ar} (h : l.Pairwise fun a b => leB a b = true) (a : Ar) : (placeL l a).Pairwise fun a b => leB a b = true := by
  induction l with
  | nil => simp [placeL]
  | cons x l ih =>
    rw [List.pairwise_cons] at h
    simp only [placeL]
    split
    · rename_i hx
      rw [List.pairwise_cons, List.pairwise_cons]
      have hax : leB a x = true := by simp [leB, ahead_asymm hx]
      refine ⟨fun y hy => ?_, h.1, h.2⟩
      rcases List.mem_cons.1 hy with rfl | hy
      · exact hax
      · exact leB_trans _ _ _ hax (h.1 y hy)
    · rename_i hx
      rw [List.pairwise_cons]
      refine ⟨fun y hy => ?_, ih h.2⟩
      rcases List.mem_cons.1 ((placeL_perm l a).mem_iff.1 hy) with rfl | hy
      · simpa [leB] using hx
      · exact h.1 y hy
def ordL (l : List Ar) : List Ar := l.foldl placeL []
theorem ordL_spec (l r : List Ar) (h : r.Pairwise fun a b => leB a b = true) : (l.foldl placeL r).Perm (l ++ r) ∧ (l.foldl placeL r).Pairwise fun a b => leB a b = true := by
  induction l generalizing r with
  | nil => exact ⟨List.Perm.refl _, h⟩
  | cons x l ih =>
    obtain ⟨h1, h2⟩ := ih (placeL r x) (placeL_pair h x)
    refine ⟨h1.trans ?_, h2⟩
    exact ((placeL_perm r x).append_left l).trans (List.perm_middle (l₁ := l) (a := x) (l₂ := r))
theorem ordL_sortL (l : List Ar) : ordL l = sortL l := by
  obtain ⟨h1, h2⟩ := ordL_spec l [] List.Pairwise.nil
  exact sortL_one (by rw [List.append_nil] at h1; exact h1) h2
theorem ordL_take {l : List Ar} {k : Nat} (h : k < l.length) : ordL (l.take (k + 1)) = placeL (ordL (l.take k)) (el l k) := by
  rw [take_el h, ordL, List.foldl_append]; rfl
theorem ordL_length (l : List Ar) : (ordL l).length = l.length := by rw [ordL_sortL, sortL_length]
/-- In and Out exchanged. -/
def flipA (a : Ar) : Ar := (a.2.1, a.1, a.2.2.1, a.2.2.2)
theorem flip_flip (a : Ar) : flipA (flipA a) = a := rfl
/-- Does a stand ahead of b, by Out first (s) or by In first? -/
def aheadS (s : Bool) (a b : Ar) : Bool := if s then aheadB (flipA a) (flipA b) else aheadB a b
def sortS (s : Bool) (l : List Ar) : List Ar := l.mergeSort fun a b => !aheadS s b a
theorem sortS_false (l : List Ar) : sortS false l = ordL l := by rw [ordL_sortL]; rfl
theorem sortS_true (l : List Ar) : sortS true l = (ordL (l.map flipA)).map flipA := by
  rw [ordL_sortL]
  have hp : (sortS true l).Perm l := List.mergeSort_perm _ _
  have hw : (sortS true l).Pairwise fun a b => (!aheadS true b a) = true := by
    refine List.pairwise_mergeSort ?_ ?_ l
    · intro a b c h1 h2
      exact leB_trans (flipA a) (flipA b) (flipA c) h1 h2
    · intro a b
      exact leB_total (flipA a) (flipA b)
  have h1 : (sortS true l).map flipA = sortL (l.map flipA) := by
    refine sortL_one (hp.map _) ?_
    rw [List.pairwise_map]
    exact hw
  rw [← h1, List.map_map]
  exact (List.map_id _).symm
theorem sortS_perm (s : Bool) (l : List Ar) : (sortS s l).Perm l := List.mergeSort_perm _ _
theorem sortS_length (s : Bool) (l : List Ar) : (sortS s l).length = l.length := (sortS_perm s l).length_eq
/-- Alike but for the weight. -/
def alikeB (a b : Ar) : Bool := decide (a.1 = b.1) && decide (a.2.1 = b.2.1) && decide (a.2.2.2 = b.2.2.2)
def lightFrom (p : Ar) : List Ar → List Ar
  | [] => []
  | x :: l => if alikeB x p = true then lightFrom x l else x :: lightFrom x l
/-- Of neighbours that are alike the first one. -/
def lightL : List Ar → List Ar
  | [] => []
  | a :: l => a :: lightFrom a l
theorem lightFrom_append (p : Ar) (l : List Ar) (x : Ar) : lightFrom p (l ++ [x]) = lightFrom p l ++ (if alikeB x (l.getLast?.getD p) = true then [] else [x]) := by
  induction l generalizing p with
  | nil => cases h : alikeB x p <;> simp [lightFrom, h]
  | cons y l ih =>
    have e : (y :: l).getLast?.getD p = l.getLast?.getD y := by cases l <;> simp [List.getLast?_cons]
    rw [e]
    simp only [List.cons_append, lightFrom]
    rw [ih y]
    split <;> simp
theorem lightL_take {l : List Ar} {k : Nat} (h : k + 1 < l.length) : lightL (l.take (k + 2)) = lightL (l.take (k + 1)) ++ (if alikeB (el l (k + 1)) (el l k) = true then [] else [el l (k + 1)]) := by
  cases l with
  | nil => simp at h
  | cons a l =>
    have h' : k < l.length := by simpa using h
    rw [List.take_succ_cons, List.take_succ_cons, lightL, lightL, take_el h', lightFrom_append, el_succ]
    have e : (l.take k).getLast?.getD a = el (a :: l) k := by
      cases k with
      | zero => simp [el]
      | succ k => rw [take_el (by omega)]; simp [el_succ]
    rw [e]; simp
theorem lightFrom_le (p : Ar) (l : List Ar) : (lightFrom p l).length ≤ l.length := by
  induction l generalizing p with
  | nil => simp [lightFrom]
  | cons x l ih => simp only [lightFrom]; split <;> simp <;> have := ih x <;> omega
theorem lightL_le (l : List Ar) : (lightL l).length ≤ l.length := by
  cases l with
  | nil => simp [lightL]
  | cons a l => simp [lightL, lightFrom_le a l]
/-- A machine with each state's arcs changed. -/
def mapM (f : List Ar → List Ar) (m : Mc) : Mc := (m.1, m.2.map fun s => (s.1, f s.2))
theorem okM_map {f : List Ar → List Ar} (hf : ∀ l, (f l).length ≤ l.length) {m : Mc} (h : okM m) : okM (mapM f m) := by
  refine ⟨by simpa [mapM] using h.1, fun j hj => ?_⟩
  have hj' : j < m.2.length := by simpa [mapM] using hj
  have := h.2 j hj'
  rw [mapM, el_map hj']
  have := hf (el m.2 j).2
  simp only
  omega
/-- What a kind of arranging does. -/
def arrL (kind : Int) (l : List Ar) : List Ar := if kind = 1 then sortS true l else if kind = 2 then lightL (sortS false l) else sortS false l
theorem arrL_le (kind : Int) (l : List Ar) : (arrL kind l).length ≤ l.length := by
  unfold arrL
  split
  · rw [sortS_length]; omega
  · split
    · have := lightL_le (sortS false l); rw [sortS_length] at this; exact this
    · rw [sortS_length]; omega
/-- Which number the comparison by a key gives. -/
def cmpS (s : Bool) (a b : Ar) : Int := if s then orI (cmpI a.2.1 b.2.1) (cmpI a.1 b.1) (cmpI a.2.2.2 b.2.2.2) (cmpI a.2.2.1 b.2.2.1) else orI (cmpI a.1 b.1) (cmpI a.2.1 b.2.1) (cmpI a.2.2.2 b.2.2.2) (cmpI a.2.2.1 b.2.2.1)
theorem cmpS_neg (s : Bool) (a b : Ar) : decide (cmpS s a b < 0) = aheadS s a b := by
  cases s
  · exact orI_neg a b
  · exact orI_neg (flipA a) (flipA b)
end Go.Proofs.YtfekmlblldhieaaGreatDoor.Pl
namespace Go.Proofs.YtfekmlblldhieaaGreatDoor.Pl
set_option linter.unusedVariables false
set_option linter.unusedSimpArgs false
def hwA (c : Int) (a : Ar) : Ar := (a.1, a.2.1, c + a.2.2.1, a.2.2.2)
def remFin (H : Nat → Nat → Int) (l : List St) (q : Nat) : Nat → Int
  | 0 => noneI
  | p + 1 => if H q p ≠ noneI ∧ (el l p).1 ≠ 1000000001 ∧ H q p + (el l p).1 < remFin H l q p then H q p + (el l p).1 else remFin H l q p
def remOf (c : Int) (ar : List Ar) : List Ar := (ar.filter fun a => !empA a).map (hwA c)
def remArc (H : Nat → Nat → Int) (l : List St) (q : Nat) : Nat → List Ar
  | 0 => []
  | p + 1 => remArc H l q p ++ (if H q p = noneI then [] else remOf (H q p) (el l p).2)
def remL (H : Nat → Nat → Int) (l : List St) (q : Nat) : List Ar := lightL (sortS false (remArc H l q l.length))
def remS (H : Nat → Nat → Int) (l : List St) (q : Nat) : St := (tldN (remFin H l q l.length), remL H l q)
def bigA (a : Ar) : Bool := decide (1000000000 < a.2.2.1)
def ovB (H : Nat → Nat → Int) (l : List St) (q : Nat) : Bool := decide (tldE (remFin H l q l.length) ≠ 0) || (remL H l q).any bigA
def ovTo (H : Nat → Nat → Int) (l : List St) : Nat → Bool
  | 0 => false
  | q + 1 => ovTo H l q || ovB H l q
def remM (H : Nat → Nat → Int) (m : Mc) : Mc := (m.1, (List.range m.2.length).map (remS H m.2))
/-- What is answered. -/
def remR (H : Nat → Nat → Int) (m : Mc) : Mc := if faultM m ≠ 0 then (0, []) else if ovTo H m.2 m.2.length = true then (0, []) else fitM (remM H m)
def remE (H : Nat → Nat → Int) (m : Mc) : Int := if faultM m ≠ 0 then faultM m else if ovTo H m.2 m.2.length = true then 4 else fitE (remM H m)
theorem remOf_take {c : Int} {ar : List Ar} {i : Nat} (h : i < ar.length) : remOf c (ar.take (i + 1)) = remOf c (ar.take i) ++ (if empA (el ar i) = true then [] else [hwA c (el ar i)]) := by
  unfold remOf
  rw [take_el h, List.filter_append, List.map_append]
  congr 1
  cases hb : empA (el ar i) <;> simp [hb]
theorem remOf_le (c : Int) (ar : List Ar) : (remOf c ar).length ≤ ar.length := by
  unfold remOf
  rw [List.length_map]
  exact List.length_filter_le _ _
theorem remArc_le (H : Nat → Nat → Int) (l : List St) (q : Nat) : ∀ p, p ≤ l.length → (remArc H l q p).length ≤ arcN (l.take p)
  | 0, _ => by simp [remArc]
  | p + 1, h => by
    have h1 := remArc_le H l q p (by omega)
    have h2 := remOf_le (H q p) (el l p).2
    have h3 := arcN_take (show p < l.length by omega)
    simp only [remArc, List.length_append]
    split <;> simp <;> omega
theorem remL_le (H : Nat → Nat → Int) (l : List St) (q : Nat) : (remL H l q).length ≤ arcN l := by
  have h1 := lightL_le (sortS false (remArc H l q l.length))
  have h2 := sortS_length false (remArc H l q l.length)
  have h3 := remArc_le H l q l.length (Nat.le_refl _)
  rw [List.take_length] at h3
  unfold remL
  omega
theorem remFin_congr {H K : Nat → Nat → Int} {l : List St} {q : Nat} : ∀ {p : Nat}, (∀ p', p' < p → H q p' = K q p') → remFin H l q p = remFin K l q p
  | 0, _ => rfl
  | p + 1, h => by
    have h1 := remFin_congr (l := l) (p := p) (fun p' hp => h p' (by omega))
    simp only [remFin]
    rw [h p (by omega), h1]
theorem remArc_congr {H K : Nat → Nat → Int} {l : List St} {q : Nat} : ∀ {p : Nat}, (∀ p', p' < p → H q p' = K q p') → remArc H l q p = remArc K l q p
  | 0, _ => rfl
  | p + 1, h => by
    have h1 := remArc_congr (l := l) (p := p) (fun p' hp => h p' (by omega))
    simp only [remArc]
    rw [h p (by omega), h1]
theorem remS_congr {H K : Nat → Nat → Int} {l : List St} {q : Nat} (h : ∀ p, p < l.length → H q p = K q p) : remS H l q = remS K l q ∧ ovB H l q = ovB K l q := by
  unfold remS ovB remL
  rw [remFin_congr h, remArc_congr h]
  exact ⟨rfl, rfl⟩
theorem ovTo_congr {H K : Nat → Nat → Int} {l : List St} : ∀ {n : Nat}, n ≤ l.length → (∀ q p, q < l.length → p < l.length → H q p = K q p) → ovTo H l n = ovTo K l n
  | 0, _, _ => rfl
  | n + 1, hn, h => by
    simp only [ovTo]
    rw [ovTo_congr (n := n) (by omega) h, (remS_congr (fun p hp => h n p (by omega) hp)).2]
/-- There is but one table, so but one answer. -/
theorem rem_one {m : Mc} {H K : Nat → Nat → Int} (h : faultM m = 0 → HopT m H) (k : faultM m = 0 → HopT m K) : remR H m = remR K m ∧ remE H m = remE K m := by
  unfold remR remE
  by_cases h0 : faultM m = 0
  · have e : ∀ q p, q < m.2.length → p < m.2.length → H q p = K q p := fun q p hq hp => (h h0 q p hq hp).one (k h0 q p hq hp)
    have e1 : remM H m = remM K m := by
      unfold remM
      refine congrArg (Prod.mk m.1) (List.map_congr_left fun q hq => ?_)
      exact (remS_congr (fun p hp => e q p (by simpa using hq) hp)).1
    rw [ovTo_congr (Nat.le_refl _) e, e1]
    exact ⟨rfl, rfl⟩
  · rw [if_pos h0, if_pos h0, if_pos h0, if_pos h0]
    exact ⟨rfl, rfl⟩
theorem rem_len (H : Nat → Nat → Int) (m : Mc) : (remM H m).2.length = m.2.length := by simp [remM]
theorem rem_el (H : Nat → Nat → Int) (m : Mc) {q : Nat} (hq : q < m.2.length) : el (remM H m).2 q = remS H m.2 q := el_range_map _ hq
theorem rem_each {H : Nat → Nat → Int} {m : Mc} (h : faultM m = 0) : okM (remM H m) := by
  have h1 := (right_size (z := m.1) (l := m.2) h).1
  have h2 := (right_size (z := m.1) (l := m.2) h).2
  refine ⟨by rw [rem_len]; omega, fun j hj => ?_⟩
  rw [rem_len] at hj
  rw [rem_el H m hj]
  have := remL_le H m.2 j
  show (remL H m.2 j).length * 32 ≤ _
  omega
theorem remR_ok (H : Nat → Nat → Int) (m : Mc) : okM (remR H m) := by
  have hz : okM (0, []) := ⟨by simp, fun j hj => absurd hj (by simp)⟩
  unfold remR fitM
  split
  · exact hz
  · split
    · exact hz
    · split
      · rename_i h
        simp only [sizeB, Bool.and_eq_true, decide_eq_true_eq] at h
        exact small_ok (by omega) (by omega)
      · exact hz
theorem remS_snoc (H : Nat → Nat → Int) (l : List St) (q : Nat) : (List.range (q + 1)).map (remS H l) = (List.range q).map (remS H l) ++ [remS H l q] := by rw [List.range_succ, List.map_append]; rfl
theorem any_take {l : List Ar} {i : Nat} (h : i < l.length) (f : Ar → Bool) : (l.take (i + 1)).any f = ((l.take i).any f || f (el l i)) := by rw [take_el h]; simp
end Go.Proofs.YtfekmlblldhieaaGreatDoor.Pl
namespace Go.Proofs.YtfekmlblldhieaaGreatDoor.Pl
theorem sortS_sortL (l : List Ar) : sortS false l = sortL l := rfl
theorem pair_sortB {l : List Ar} (h : l.Pairwise fun a b => leB a b = true) : sortB l = true := by
  rw [sortB_iff]
  intro i hi
  have := List.pairwise_iff_getElem.1 h i (i + 1) (by omega) hi (by omega)
  rw [el_get hi, el_get (by omega)]
  simpa [leB] using this
theorem sort_right (l : List Ar) : sortB (sortS false l) = true := pair_sortB (sortL_pair l)
theorem sort_sort (l : List Ar) : sortS false (sortS false l) = sortS false l := by
  rw [sortS_sortL, sortS_sortL]
  exact (sortL_one (List.Perm.refl _) (sortL_pair l)).symm
theorem arcN_map {f : List Ar → List Ar} (hf : ∀ l, (f l).length ≤ l.length) (l : List St) : arcN (l.map fun s => (s.1, f s.2)) ≤ arcN l := by
  induction l with
  | nil => simp [arcN]
  | cons s l ih => have := hf s.2; simp only [List.map_cons, arcN]; omega
/-- Arcs that stay, of a right machine: a right machine. -/
theorem fault_map {f : List Ar → List Ar} (hf : ∀ l, (f l).length ≤ l.length) (hs : ∀ l a, a ∈ f l → a ∈ l) {m : Mc} (h : faultM m = 0) : faultM (mapM f m) = 0 := by
  obtain ⟨h1, h2⟩ := faultM_zero h
  have h3 := arcN_map hf m.2
  refine faultM_ok ?_ ?_
  · simp only [sizeB, mapM, Bool.and_eq_true, decide_eq_true_eq, List.length_map] at h1 ⊢
    exact ⟨h1.1, decide_eq_true (Nat.le_trans h3 h1.2)⟩
  · simp only [rangeB, mapM, Bool.and_eq_true, List.length_map, List.all_eq_true] at h2 ⊢
    refine ⟨h2.1, fun s hs' => ?_⟩
    simp only [List.mem_map] at hs'
    obtain ⟨t, ht, rfl⟩ := hs'
    have h4 := h2.2 t ht
    simp only [stB, Bool.and_eq_true, List.all_eq_true] at h4 ⊢
    exact ⟨h4.1, fun a ha => h4.2 a (hs _ a ha)⟩
/-- How often an arc stands in a list. -/
def cntA (l : List Ar) (a : Ar) : Nat := l.countP fun x => decide (x = a)
theorem cntA_take {l : List Ar} {k : Nat} (h : k < l.length) (a : Ar) : cntA (l.take (k + 1)) a = cntA (l.take k) a + (if el l k = a then 1 else 0) := by
  unfold cntA
  rw [take_el h, List.countP_append]
  by_cases e : el l k = a <;> simp [e]
theorem cntA_le (l : List Ar) (a : Ar) : cntA l a ≤ l.length := List.countP_le_length
theorem cntA_perm {l r : List Ar} (h : l.Perm r) (a : Ar) : cntA l a = cntA r a := h.countP_eq _
theorem cntA_pos {l : List Ar} {a : Ar} (h : a ∈ l) : 0 < cntA l a := List.countP_pos_iff.2 ⟨a, h, by simp⟩
/-- Alike, and no heavier. -/
def lessB (y x : Ar) : Bool := decide (y.1 = x.1) && decide (y.2.1 = x.2.1) && decide (y.2.2.2 = x.2.2.2) && decide (y.2.2.1 ≤ x.2.2.1)
theorem alike_iff {a b : Ar} : alikeB a b = true ↔ a.1 = b.1 ∧ a.2.1 = b.2.1 ∧ a.2.2.2 = b.2.2.2 := by simp [alikeB, and_assoc]
theorem less_iff {a b : Ar} : lessB a b = true ↔ a.1 = b.1 ∧ a.2.1 = b.2.1 ∧ a.2.2.2 = b.2.2.2 ∧ a.2.2.1 ≤ b.2.2.1 := by simp [lessB, and_assoc]
theorem leB_iff {a b : Ar} : leB a b = true ↔ ¬ (b.1 < a.1 ∨ b.1 = a.1 ∧ (b.2.1 < a.2.1 ∨ b.2.1 = a.2.1 ∧ (b.2.2.2 < a.2.2.2 ∨ b.2.2.2 = a.2.2.2 ∧ b.2.2.1 < a.2.2.1))) := by
  rw [← aheadB_false]; simp [leB]
theorem lightFrom_mem {p : Ar} {l : List Ar} {y : Ar} (h : y ∈ lightFrom p l) : y ∈ l := by
  induction l generalizing p with
  | nil => simp [lightFrom] at h
  | cons x l ih =>
    simp only [lightFrom] at h
    split at h
    · exact List.mem_cons_of_mem _ (ih h)
    · rcases List.mem_cons.1 h with rfl | h
      · exact List.mem_cons_self
      · exact List.mem_cons_of_mem _ (ih h)
theorem lightL_mem {l : List Ar} {y : Ar} (h : y ∈ lightL l) : y ∈ l := by
  cases l with
  | nil => simp [lightL] at h
  | cons a l =>
    rcases List.mem_cons.1 h with rfl | h
    · exact List.mem_cons_self
    · exact List.mem_cons_of_mem _ (lightFrom_mem h)
theorem light_apart {p : Ar} {l : List Ar} (h : (p :: l).Pairwise fun a b => leB a b = true) : (∀ y ∈ lightFrom p l, alikeB y p = false) ∧ (lightFrom p l).Pairwise fun a b => alikeB b a = false := by
  induction l generalizing p with
  | nil => simp [lightFrom]
  | cons x l ih =>
    rw [List.pairwise_cons] at h
    obtain ⟨i1, i2⟩ := ih h.2
    have hpx := leB_iff.1 (h.1 x List.mem_cons_self)
    simp only [lightFrom]
    split
    · rename_i hx
      refine ⟨fun y hy => ?_, i2⟩
      have h1 := i1 y hy
      rcases bool_cases' (alikeB y p) with h2 | h2
      · rw [alike_iff] at hx h2
        have h3 : alikeB y x = true := alike_iff.2 (by omega)
        rw [h3] at h1; cases h1
      · exact h2
    · rename_i hx
      refine ⟨fun y hy => ?_, ?_⟩
      · rcases List.mem_cons.1 hy with rfl | hy
        · simpa using hx
        · have hyl := lightFrom_mem hy
          have hxy := leB_iff.1 ((List.pairwise_cons.1 h.2).1 y hyl)
          rcases bool_cases' (alikeB y p) with h2 | h2
          · rw [alike_iff] at h2
            exact absurd (alike_iff.2 (by omega)) hx
          · exact h2
      · rw [List.pairwise_cons]
        exact ⟨fun y hy => i1 y hy, i2⟩
theorem light_has {p : Ar} {l : List Ar} (h : (p :: l).Pairwise fun a b => leB a b = true) : ∀ x ∈ l, lessB p x = true ∨ ∃ y ∈ lightFrom p l, lessB y x = true := by
  induction l generalizing p with
  | nil => simp
  | cons x l ih =>
    rw [List.pairwise_cons] at h
    have i1 := ih h.2
    have hpx := leB_iff.1 (h.1 x List.mem_cons_self)
    intro z hz
    simp only [lightFrom]
    split
    · rename_i hx
      rw [alike_iff] at hx
      have hl : lessB p x = true := less_iff.2 (by omega)
      rcases List.mem_cons.1 hz with rfl | hz
      · exact .inl hl
      · rcases i1 z hz with h1 | ⟨y, hy, h1⟩
        · rw [less_iff] at hl h1
          exact .inl (less_iff.2 (by omega))
        · exact .inr ⟨y, hy, h1⟩
    · rcases List.mem_cons.1 hz with rfl | hz
      · exact .inr ⟨z, List.mem_cons_self, less_iff.2 (by omega)⟩
      · rcases i1 z hz with h1 | ⟨y, hy, h1⟩
        · exact .inr ⟨x, List.mem_cons_self, h1⟩
        · exact .inr ⟨y, List.mem_cons_of_mem _ hy, h1⟩
theorem count_one {l : List Ar} {p : Ar → Bool} (h : l.Pairwise fun a b => ¬ (p a = true ∧ p b = true)) : l.countP p ≤ 1 := by
  induction l with
  | nil => simp
  | cons a l ih =>
    rw [List.pairwise_cons] at h
    have i1 := ih h.2
    rcases bool_cases' (p a) with ha | ha
    · have h0 : l.countP p = 0 := List.countP_eq_zero.2 (fun b hb hb' => h.1 b hb ⟨ha, hb'⟩)
      simp [ha, h0]
    · simp [ha, i1]
/-- Of those that are alike just one is left, the lightest. -/
theorem light_count {l : List Ar} {x : Ar} (hx : x ∈ l) : (lightL (sortS false l)).countP (fun y => lessB y x) = 1 := by
  have hp := sortL_pair l
  have hx' : x ∈ sortS false l := (sortS_perm false l).mem_iff.2 hx
  rw [sortS_sortL] at hx' ⊢
  cases hs : sortL l with
  | nil => rw [hs] at hx'; simp at hx'
  | cons a r =>
    rw [hs] at hp hx'
    obtain ⟨h1, h2⟩ := light_apart hp
    have h3 := light_has hp
    have ap : (lightL (a :: r)).Pairwise fun a b => ¬ (lessB a x = true ∧ lessB b x = true) := by
      have hq : (lightL (a :: r)).Pairwise fun a b => alikeB b a = false := by
        rw [lightL, List.pairwise_cons]
        exact ⟨h1, h2⟩
      refine hq.imp ?_
      intro b c hbc hh
      obtain ⟨q1, q2⟩ := hh
      rw [less_iff] at q1 q2
      have : alikeB c b = true := alike_iff.2 (by omega)
      rw [this] at hbc; cases hbc
    have hle := count_one ap
    have hge : 0 < (lightL (a :: r)).countP (fun y => lessB y x) := by
      rw [List.countP_pos_iff]
      rcases List.mem_cons.1 hx' with rfl | hr
      · exact ⟨x, List.mem_cons_self, less_iff.2 (by omega)⟩
      · rcases h3 x hr with h4 | ⟨y, hy, h4⟩
        · exact ⟨a, List.mem_cons_self, h4⟩
        · exact ⟨y, List.mem_cons_of_mem _ hy, h4⟩
    omega
theorem countP_take {l : List Ar} {k : Nat} (h : k < l.length) (p : Ar → Bool) : (l.take (k + 1)).countP p = (l.take k).countP p + (if p (el l k) = true then 1 else 0) := by
  rw [take_el h, List.countP_append]
  rcases bool_cases' (p (el l k)) with e | e <;> simp [e]
theorem merge_sub (l : List Ar) (a : Ar) (h : a ∈ lightL (sortS false l)) : a ∈ l := (sortS_perm false l).mem_iff.1 (lightL_mem h)
theorem merge_le (l : List Ar) : (lightL (sortS false l)).length ≤ l.length := by have := lightL_le (sortS false l); rw [sortS_length] at this; exact this
end Go.Proofs.YtfekmlblldhieaaGreatDoor.Pl
namespace Go.Proofs.YtfekmlblldhieaaGreatDoor.Pl
set_option linter.unusedVariables false
set_option linter.unusedSimpArgs false
/-- A change: from, to. -/
abbrev Ch := Int × Int
def chgF : List Ch → Int → Int
  | [], x => x
  | c :: l, x => if c.1 = x then c.2 else chgF l x
theorem chg_hit {x : Int} : ∀ {l : List Ch} {i : Nat}, i < l.length → (∀ j, j < i → (el l j).1 ≠ x) → (el l i).1 = x → chgF l x = (el l i).2
  | [], i, h, _, _ => absurd h (by simp)
  | c :: l, 0, _, _, h => by
    rw [el_zero] at h ⊢
    simp [chgF, h]
  | c :: l, i + 1, hi, hn, h => by
    have h0 := hn 0 (by omega)
    rw [el_zero] at h0
    rw [el_succ] at h ⊢
    rw [chgF, if_neg h0]
    exact chg_hit (by simpa using hi) (fun j hj => by have := hn (j + 1) (by omega); rwa [el_succ] at this) h
theorem chg_none {x : Int} : ∀ {l : List Ch}, (∀ j, j < l.length → (el l j).1 ≠ x) → chgF l x = x
  | [], _ => rfl
  | c :: l, hn => by
    have h0 := hn 0 (by simp)
    rw [el_zero] at h0
    rw [chgF, if_neg h0]
    exact chg_none (fun j hj => by have := hn (j + 1) (by simpa using hj); rwa [el_succ] at this)
/-- P11.5: what is wrong with a list of changes. -/
def chB (c : Ch) : Bool := inB c.1 1 1000 && inB c.2 0 1000
def twcB (l : List Ch) : Bool := (List.range l.length).any fun i => (List.range i).any fun j => decide ((el l i).1 = (el l j).1)
def fltC (l : List Ch) : Int := if 50 < l.length then 1 else if l.all chB = false then 2 else if twcB l = true then 10 else 0
theorem twc_iff (l : List Ch) : twcB l = true ↔ ∃ i, i < l.length ∧ ∃ j, j < i ∧ (el l i).1 = (el l j).1 := by
  simp only [twcB, List.any_eq_true, List.mem_range, decide_eq_true_eq]
theorem flt_long {l : List Ch} (h : 50 < l.length) : fltC l = 1 := by unfold fltC; rw [if_pos h]
theorem all_no {l : List Ch} {i : Nat} (hi : i < l.length) (hb : chB (el l i) = false) : l.all chB = false := by
  rw [List.all_eq_false]
  exact ⟨el l i, el_mem hi, by simp [hb]⟩
theorem flt_range {l : List Ch} (h : ¬ 50 < l.length) {i : Nat} (hi : i < l.length) (hb : chB (el l i) = false) : fltC l = 2 := by
  unfold fltC
  rw [if_neg h, if_pos (all_no hi hb)]
theorem all_yes {l : List Ch} (ha : ∀ j, j < l.length → chB (el l j) = true) : ¬ l.all chB = false := by
  intro h
  rw [List.all_eq_false] at h
  obtain ⟨c, hc, hn⟩ := h
  obtain ⟨j, hj, rfl⟩ := List.getElem_of_mem hc
  have := ha j hj
  rw [el_get hj] at this
  exact hn this
theorem flt_twice {l : List Ch} (h : ¬ 50 < l.length) (ha : ∀ j, j < l.length → chB (el l j) = true) {i j : Nat} (hi : i < l.length) (hj : j < i) (he : (el l i).1 = (el l j).1) : fltC l = 10 := by
  unfold fltC
  rw [if_neg h, if_neg (all_yes ha), if_pos ((twc_iff l).2 ⟨i, hi, j, hj, he⟩)]
theorem flt_none {l : List Ch} (h : ¬ 50 < l.length) (ha : ∀ j, j < l.length → chB (el l j) = true) (ho : ∀ i, i < l.length → ∀ j, j < i → (el l i).1 ≠ (el l j).1) : fltC l = 0 := by
  unfold fltC
  rw [if_neg h, if_neg (all_yes ha), if_neg]
  intro ht
  obtain ⟨i, hi, j, hj, he⟩ := (twc_iff l).1 ht
  exact ho i hi j hj he
theorem flt_len {l : List Ch} (h : fltC l = 0) : l.length ≤ 50 := by
  unfold fltC at h
  by_cases g : 50 < l.length
  · rw [if_pos g] at h; cases h
  · omega
/-- P11.5: the machine. -/
def relA (ins outs : List Ch) (a : Ar) : Ar := (chgF ins a.1, chgF outs a.2.1, a.2.2.1, a.2.2.2)
def relS (ins outs : List Ch) (s : St) : St := (s.1, s.2.map (relA ins outs))
def relM (ins outs : List Ch) (m : Mc) : Mc := (m.1, m.2.map (relS ins outs))
def relE (ins outs : List Ch) (m : Mc) : Int := if faultM m ≠ 0 then faultM m else if fltC ins ≠ 0 then fltC ins else fltC outs
def relR (ins outs : List Ch) (m : Mc) : Mc := if relE ins outs m = 0 then relM ins outs m else (0, [])
theorem arcN_rel (ins outs : List Ch) (l : List St) : arcN (l.map (relS ins outs)) = arcN l := by
  induction l with
  | nil => rfl
  | cons s l ih => simp only [List.map_cons, arcN, ih, relS, List.length_map]
theorem relE_fault {ins outs : List Ch} {m : Mc} (h : relE ins outs m = 0) : faultM m = 0 ∧ fltC ins = 0 ∧ fltC outs = 0 := by
  unfold relE at h
  by_cases h1 : faultM m = 0
  · rw [if_neg (by simp [h1])] at h
    by_cases h2 : fltC ins = 0
    · rw [if_neg (by simp [h2])] at h
      exact ⟨h1, h2, h⟩
    · rw [if_pos h2] at h; exact absurd h h2
  · rw [if_pos h1] at h; exact absurd h h1
theorem relR_ok (ins outs : List Ch) (m : Mc) : okM (relR ins outs m) := by
  unfold relR
  split
  · rename_i h
    have := right_size (z := m.1) (l := m.2) (relE_fault h).1
    refine small_ok (by show (m.2.map _).length ≤ _; rw [List.length_map]; omega) ?_
    show arcN (m.2.map (relS ins outs)) ≤ _
    rw [arcN_rel]; omega
  · exact ⟨by simp, fun j hj => absurd hj (by simp)⟩
end Go.Proofs.YtfekmlblldhieaaGreatDoor.Pl
namespace Go.Proofs.YtfekmlblldhieaaGreatDoor.Pl
set_option linter.unusedVariables false
set_option linter.unusedSimpArgs false
/-- One side has less, but never what is dearer alone. -/
theorem CstIs.sub {P Q : Nat → Prop} {a b : Int} (h : CstIs P a) (k : CstIs Q b) (h1 : ∀ c, P c → Q c) (h2 : ∀ c, Q c → ∃ d, d ≤ c ∧ P d) : a = b := by
  rcases h with ⟨rfl, h⟩ | ⟨c, hc, _, rfl⟩ <;> rcases k with ⟨rfl, k⟩ | ⟨d, hd, _, rfl⟩
  · rfl
  · obtain ⟨e, _, he⟩ := h2 d hd.1
    exact absurd he (h e)
  · exact absurd (h1 c hc.1) (k c)
  · obtain ⟨e, hle, he⟩ := h2 d hd.1
    have e1 := hc.2 e he
    have e2 := hd.2 c (h1 c hc.1)
    omega
theorem way_sub {l l' : List St} (h : ∀ q a, a ∈ (el l q).2 → a ∈ (el l' q).2) {q p c : Nat} {u v : List Int} (hw : Way l q u v p c) : Way l' q u v p c := by
  induction hw with
  | nil => exact .nil
  | snoc hw ha ht ih => exact ih.snoc (h _ _ ha) ht
/-- The same arcs, in whatever order. -/
theorem costs_same {m m' : Mc} (hz : m.1 = m'.1) (hl : m.2.length = m'.2.length) (hf : ∀ q, q < m.2.length → (el m.2 q).1 = (el m'.2 q).1) (ha : ∀ q a, a ∈ (el m.2 q).2 ↔ a ∈ (el m'.2 q).2) (x y : List Int) (c : Nat) : Costs m x y c ↔ Costs m' x y c := by
  constructor
  · rintro ⟨h0, p, d, hw, hp, hn, rfl⟩
    rw [hz] at h0 hw
    exact ⟨h0, p, d, way_sub (fun q a => (ha q a).1) hw, by omega, by rw [← hf p hp]; exact hn, by rw [hf p hp]⟩
  · rintro ⟨h0, p, d, hw, hp, hn, rfl⟩
    rw [← hz] at h0 hw
    have hp' : p < m.2.length := by omega
    exact ⟨h0, p, d, way_sub (fun q a => (ha q a).2) hw, hp', by rw [hf p hp']; exact hn, by rw [hf p hp']⟩
/-- Of each arc one that is alike and no heavier. -/
theorem way_light {l l' : List St} (h : ∀ q a, a ∈ (el l q).2 → ∃ b ∈ (el l' q).2, b.1 = a.1 ∧ b.2.1 = a.2.1 ∧ b.2.2.2 = a.2.2.2 ∧ b.2.2.1 ≤ a.2.2.1) {q p c : Nat} {u v : List Int} (hw : Way l q u v p c) : ∃ d, d ≤ c ∧ Way l' q u v p d := by
  induction hw with
  | nil => exact ⟨0, Nat.le_refl _, .nil⟩
  | snoc hw ha ht ih =>
    obtain ⟨d, hd, hw'⟩ := ih
    obtain ⟨b, hb, e1, e2, e3, e4⟩ := h _ _ ha
    have := hw'.snoc hb (by rw [e3]; exact ht)
    rw [e1, e2] at this
    exact ⟨_, by omega, this⟩
theorem costs_light {m m' : Mc} (hz : m.1 = m'.1) (hl : m.2.length = m'.2.length) (hf : ∀ q, q < m.2.length → (el m.2 q).1 = (el m'.2 q).1) (hs : ∀ q a, a ∈ (el m'.2 q).2 → a ∈ (el m.2 q).2) (h : ∀ q a, a ∈ (el m.2 q).2 → ∃ b ∈ (el m'.2 q).2, b.1 = a.1 ∧ b.2.1 = a.2.1 ∧ b.2.2.2 = a.2.2.2 ∧ b.2.2.1 ≤ a.2.2.1) (x y : List Int) :
    (∀ c, Costs m' x y c → Costs m x y c) ∧ ∀ c, Costs m x y c → ∃ d, d ≤ c ∧ Costs m' x y d := by
  constructor
  · rintro c ⟨h0, p, d, hw, hp, hn, rfl⟩
    rw [← hz] at h0 hw
    have hp' : p < m.2.length := by omega
    exact ⟨h0, p, d, way_sub hs hw, hp', by rw [hf p hp']; exact hn, by rw [hf p hp']⟩
  · rintro c ⟨h0, p, d, hw, hp, hn, rfl⟩
    rw [hz] at h0 hw
    obtain ⟨e, he, hw'⟩ := way_light h hw
    exact ⟨e + (el m.2 p).1.toNat, by omega, h0, p, e, hw', by omega, by rw [← hf p hp]; exact hn, by rw [hf p hp]⟩
/-- What is read changed, label by label. -/
theorem way_rel {l l' : List St} {f : Int → Int} (h0 : ∀ a, f a = 0 ↔ a = 0) (h : ∀ q a, a ∈ (el l q).2 → (f a.1, a.2.1, a.2.2.1, a.2.2.2) ∈ (el l' q).2) {q p c : Nat} {u v : List Int} (hw : Way l q u v p c) : Way l' q (u.map f) v p c := by
  induction hw with
  | nil => exact .nil
  | snoc hw ha ht ih =>
    rename_i u v p c a t
    have hl : (lab a.1).map f = lab (f a.1) := by
      unfold lab
      by_cases e : a.1 = 0
      · rw [if_pos e, if_pos ((h0 _).2 e)]; rfl
      · rw [if_neg e, if_neg (fun g => e ((h0 _).1 g))]; rfl
    rw [List.map_append, hl]
    exact ih.snoc (h _ _ ha) ht
/-- Labels exchanged. -/
def swF (a : Int) : Int := if a = 1 then 2 else if a = 2 then 1 else a
theorem swF_zero (a : Int) : swF a = 0 ↔ a = 0 := by
  unfold swF
  by_cases h1 : a = 1
  · simp [h1]
  · by_cases h2 : a = 2
    · simp [h2]
    · simp [h1, h2]
theorem swF_two (a : Int) : swF (swF a) = a := by
  unfold swF
  by_cases h1 : a = 1
  · simp [h1]
  · by_cases h2 : a = 2
    · simp [h2]
    · simp [h1, h2]
def swM (m : Mc) : Mc := (m.1, m.2.map fun s => (s.1, s.2.map fun a => (swF a.1, a.2.1, a.2.2.1, a.2.2.2)))
theorem sw_el {m : Mc} {q : Nat} (hq : q < m.2.length) : el (swM m).2 q = ((el m.2 q).1, (el m.2 q).2.map fun a => (swF a.1, a.2.1, a.2.2.1, a.2.2.2)) := el_map hq _
theorem sw_mem {m : Mc} {q : Nat} {a : Ar} (h : a ∈ (el m.2 q).2) : (swF a.1, a.2.1, a.2.2.1, a.2.2.2) ∈ (el (swM m).2 q).2 := by
  rw [sw_el (el_in h)]
  exact List.mem_map_of_mem (f := fun a : Ar => (swF a.1, a.2.1, a.2.2.1, a.2.2.2)) h
theorem sw_mem' {m : Mc} {q : Nat} {a : Ar} (h : a ∈ (el (swM m).2 q).2) : (swF a.1, a.2.1, a.2.2.1, a.2.2.2) ∈ (el m.2 q).2 := by
  have hq := el_in h
  have hq' : q < m.2.length := by simpa [swM] using hq
  rw [sw_el hq', List.mem_map] at h
  obtain ⟨b, hb, rfl⟩ := h
  obtain ⟨p0, p1, p2, p3⟩ := b
  simp only [swF_two]
  exact hb
theorem map_sw (l : List Int) : (l.map swF).map swF = l := by
  rw [List.map_map]
  exact List.map_id'' (fun a => swF_two a) l
theorem costs_sw (m : Mc) (x y : List Int) (c : Nat) : Costs (swM m) (x.map swF) y c ↔ Costs m x y c := by
  have hlen : (swM m).2.length = m.2.length := by simp [swM]
  constructor
  · rintro ⟨h0, p, d, hw, hp, hn, rfl⟩
    have h1 := way_rel swF_zero (fun q a ha => sw_mem' ha) hw
    rw [map_sw] at h1
    have hp' : p < m.2.length := by omega
    rw [sw_el hp'] at hn ⊢
    exact ⟨h0, p, d, h1, hp', hn, rfl⟩
  · rintro ⟨h0, p, d, hw, hp, hn, rfl⟩
    have h1 := way_rel swF_zero (fun q a ha => sw_mem ha) hw
    refine ⟨h0, p, d, h1, by omega, ?_, ?_⟩
    · rw [sw_el hp]; exact hn
    · rw [sw_el hp]
theorem sw_cheap {m : Mc} (h : CheapL m.2) : CheapL (swM m).2 := fun s hs => by
  simp only [swM, List.mem_map] at hs
  obtain ⟨t, ht, rfl⟩ := hs
  refine ⟨(h t ht).1, fun a ha => ?_⟩
  simp only [List.mem_map] at ha
  obtain ⟨b, hb, rfl⟩ := ha
  exact (h t ht).2 b hb
theorem rel_sw (m : Mc) : relM [(1, 2), (2, 1)] [] m = swM m := by
  unfold relM swM
  refine congrArg (Prod.mk m.1) (List.map_congr_left fun s hs => ?_)
  unfold relS
  refine congrArg (Prod.mk s.1) (List.map_congr_left fun a ha => ?_)
  unfold relA swF
  simp only [chgF, eq_comm]
theorem sw_right {m : Mc} (h : faultM m = 0) : faultM (swM m) = 0 := by
  have hlen : (swM m).2.length = m.2.length := by simp [swM]
  have harc : arcN (swM m).2 = arcN m.2 := by rw [← rel_sw]; exact arcN_rel _ _ _
  obtain ⟨h1, h2⟩ := right_parts h
  have h3 := right_size (z := m.1) (l := m.2) h
  refine faultM_ok (by simp only [sizeB, Bool.and_eq_true, decide_eq_true_eq]; omega) ?_
  unfold rangeB
  rw [hlen]
  simp only [Bool.and_eq_true, inB, decide_eq_true_eq, List.all_eq_true]
  refine ⟨h1, fun s hs => ?_⟩
  simp only [swM, List.mem_map] at hs
  obtain ⟨t, ht, rfl⟩ := hs
  have h4 := h2 t ht
  simp only [stB, Bool.and_eq_true, List.all_eq_true] at h4 ⊢
  refine ⟨h4.1, fun a ha => ?_⟩
  rw [List.mem_map] at ha
  obtain ⟨b, hb, rfl⟩ := ha
  have h5 := h4.2 b hb
  simp only [arcB, inB, Bool.and_eq_true, decide_eq_true_eq] at h5 ⊢
  refine ⟨⟨⟨?_, h5.1.1.2⟩, h5.1.2⟩, h5.2⟩
  unfold swF
  split
  · omega
  · split <;> omega
/-- Words with the labels exchanged: 3 less the label. -/
theorem sw_word {l : List Int} (h : ∀ n ∈ l, n = 1 ∨ n = 2) : l.map swF = l.map (fun n => 3 - n) := List.map_congr_left fun n hn => by
  rcases h n hn with rfl | rfl <;> rfl
theorem sw_flt : fltC [(1, 2), (2, 1)] = 0 ∧ fltC [] = 0 := by decide
end Go.Proofs.YtfekmlblldhieaaGreatDoor.Pl
namespace Go.Proofs.YtfekmlblldhieaaGreatDoor.Pl
set_option linter.unusedVariables false
set_option linter.unusedSimpArgs false
theorem hop_way {l : List St} {q p n c : Nat} (h : Run (EmpE l) q n p c) : Way l q [] [] p c := by
  induction h with
  | nil => exact .nil
  | step h e ih =>
    obtain ⟨a, ha, he, ht, rfl⟩ := e
    obtain ⟨h1, h2⟩ := empA_iff.1 he
    have := Way.snoc ih ha ht
    simpa [lab, h1, h2] using this
theorem mem_remArc {H : Nat → Nat → Int} {l : List St} {q : Nat} {x : Ar} : ∀ {k : Nat}, x ∈ remArc H l q k → ∃ p, p < k ∧ H q p ≠ noneI ∧ ∃ a ∈ (el l p).2, empA a = false ∧ x = hwA (H q p) a
  | 0, h => by simp [remArc] at h
  | k + 1, h => by
    simp only [remArc, List.mem_append] at h
    rcases h with h | h
    · obtain ⟨p, hp, g⟩ := mem_remArc h
      exact ⟨p, by omega, g⟩
    · by_cases hn : H q k = noneI
      · rw [if_pos hn] at h; simp at h
      · rw [if_neg hn] at h
        unfold remOf at h
        simp only [List.mem_map, List.mem_filter] at h
        obtain ⟨a, ⟨ha, he⟩, rfl⟩ := h
        exact ⟨k, by omega, hn, a, ha, by simpa using he, rfl⟩
theorem remArc_mem {H : Nat → Nat → Int} {l : List St} {q p : Nat} {a : Ar} (hn : H q p ≠ noneI) (ha : a ∈ (el l p).2) (he : empA a = false) : ∀ {k : Nat}, p < k → hwA (H q p) a ∈ remArc H l q k
  | 0, h => by omega
  | k + 1, h => by
    simp only [remArc, List.mem_append]
    by_cases e : p = k
    · subst e
      right
      rw [if_neg hn]
      unfold remOf
      simp only [List.mem_map, List.mem_filter]
      exact ⟨a, ⟨ha, by simp [he]⟩, rfl⟩
    · exact .inl (remArc_mem hn ha he (by omega))
theorem light_some {l : List Ar} {x : Ar} (h : x ∈ l) : ∃ y ∈ lightL (sortS false l), lessB y x = true := by
  have h1 := light_count h
  have h2 : 0 < (lightL (sortS false l)).countP (fun y => lessB y x) := by omega
  rw [List.countP_pos_iff] at h2
  exact h2
theorem TldQ.get {P : Nat → Prop} {b : Int} (h : TldQ P b) (hn : b ≠ noneI) : ∃ c : Nat, P c ∧ b = (c : Int) := by
  rcases h with ⟨g, _⟩ | ⟨c, hc, e, _⟩
  · exact absurd g hn
  · exact ⟨c, hc.1, e⟩
theorem TldQ.le {P : Nat → Prop} {b : Int} (h : TldQ P b) {c : Nat} (hc : P c) : b ≠ noneI ∧ b ≤ (c : Int) := by
  rcases h with ⟨_, g⟩ | ⟨d, hd, rfl, hl⟩
  · exact absurd hc (g c)
  · have := hd.2 c hc
    exact ⟨by unfold noneI; omega, by omega⟩
/-- The ends, too. -/
theorem remFin_has {H : Nat → Nat → Int} {l : List St} {q : Nat} : ∀ k, remFin H l q k = noneI ∨ ∃ p, p < k ∧ H q p ≠ noneI ∧ (el l p).1 ≠ 1000000001 ∧ remFin H l q k = H q p + (el l p).1
  | 0 => .inl rfl
  | k + 1 => by
    simp only [remFin]
    split
    · rename_i h
      exact .inr ⟨k, by omega, h.1, h.2.1, rfl⟩
    · rcases remFin_has (H := H) (l := l) (q := q) k with h | ⟨p, hp, h⟩
      · exact .inl h
      · exact .inr ⟨p, by omega, h⟩
theorem remFin_le {H : Nat → Nat → Int} {l : List St} {q p : Nat} (hn : H q p ≠ noneI) (hf : (el l p).1 ≠ 1000000001) : ∀ {k : Nat}, p < k → remFin H l q k ≤ H q p + (el l p).1
  | 0, h => by omega
  | k + 1, h => by
    simp only [remFin]
    by_cases e : p = k
    · subst e
      split
      · exact Int.le_refl _
      · rename_i g
        have : ¬ H q p + (el l p).1 < remFin H l q p := fun x => g ⟨hn, hf, x⟩
        omega
    · have := remFin_le (H := H) (l := l) (q := q) hn hf (k := k) (by omega)
      split
      · rename_i g; omega
      · exact this
theorem rem_way {m : Mc} (hr : faultM m = 0) {H : Nat → Nat → Int} (hH : HopT m H) {q : Nat} (hq : q < m.2.length) {u v : List Int} {p c : Nat} (h : Way (remM H m).2 q u v p c) : Way m.2 q u v p c ∧ p < m.2.length := by
  induction h with
  | nil => exact ⟨.nil, hq⟩
  | @snoc u v p c h a ha t ht ih =>
    obtain ⟨ih, hp⟩ := ih
    rw [rem_el H m hp] at ha
    have ha := merge_sub _ _ ha
    obtain ⟨p', hp', hn, b, hb, he, rfl⟩ := mem_remArc ha
    obtain ⟨d, ⟨n, hd⟩, hde⟩ := (hH p p' hp hp').get hn
    have hw := (right_parts hr).2 (el m.2 p') (el_mem hp')
    simp only [stB, Bool.and_eq_true, List.all_eq_true] at hw
    have hw := hw.2 _ hb
    simp only [arcB, inB, Bool.and_eq_true, decide_eq_true_eq] at hw
    have h1 := Way.snoc (ih.trans (hop_way hd)) hb ht
    have e1 : (hwA (H p p') b).2.2.1.toNat = d + b.2.2.1.toNat := by
      show (H p p' + b.2.2.1).toNat = _
      rw [hde]; omega
    rw [List.append_nil, List.append_nil, Nat.add_assoc, ← e1] at h1
    refine ⟨h1, ?_⟩
    have : b.2.2.2 = (t : Int) := ht
    omega
theorem ov_none {H : Nat → Nat → Int} {l : List St} : ∀ {n : Nat}, ovTo H l n = false → ∀ q, q < n → ovB H l q = false
  | 0, _, q, hq => by omega
  | n + 1, h, q, hq => by
    simp only [ovTo, Bool.or_eq_false_iff] at h
    by_cases e : q = n
    · subst e; exact h.2
    · exact ov_none h.1 q (by omega)
theorem fin_told {H : Nat → Nat → Int} {l : List St} {q : Nat} (h : ovB H l q = false) : (remFin H l q l.length = noneI ∧ tldN (remFin H l q l.length) = 1000000001) ∨ (remFin H l q l.length ≠ noneI ∧ remFin H l q l.length ≤ 1000000000 ∧ tldN (remFin H l q l.length) = remFin H l q l.length) := by
  simp only [ovB, Bool.or_eq_false_iff, decide_eq_false_iff_not, Decidable.not_not] at h
  have h1 := h.1
  unfold tldE at h1
  unfold tldN
  by_cases e : remFin H l q l.length = noneI
  · exact .inl ⟨e, if_pos e⟩
  · rw [if_neg e] at h1
    by_cases g : 1000000000 < remFin H l q l.length
    · rw [if_pos g] at h1; cases h1
    · exact .inr ⟨e, by omega, by rw [if_neg e, if_neg g]⟩
/-- What costs something in it costs so in the machine. -/
theorem rem_costs {m : Mc} (hr : faultM m = 0) {H : Nat → Nat → Int} (hH : HopT m H) (hov : ovTo H m.2 m.2.length = false) {x y : List Int} {c : Nat} (h : Costs (remM H m) x y c) : Costs m x y c := by
  obtain ⟨hz, p, d, hw, hp, hf, rfl⟩ := h
  have hz' : 0 ≤ m.1 := hz
  obtain ⟨⟨hzl, hzu⟩, hst⟩ := right_parts hr
  have hq : m.1.toNat < m.2.length := by omega
  obtain ⟨h1, hp'⟩ := rem_way hr hH hq hw
  rw [rem_el H m hp'] at hf ⊢
  have hf' : tldN (remFin H m.2 p m.2.length) ≠ 1000000001 := hf
  show Costs m x y (d + (tldN (remFin H m.2 p m.2.length)).toNat)
  rcases fin_told (ov_none hov p hp') with ⟨_, e⟩ | ⟨e1, _, e2⟩
  · exact absurd e hf'
  · rw [e2]
    rcases remFin_has (H := H) (l := m.2) (q := p) m.2.length with g | ⟨p2, hp2, hn, hfi, hg⟩
    · exact absurd g e1
    · obtain ⟨e, ⟨n, he⟩, hee⟩ := (hH p p2 hp' hp2).get hn
      have h2 := h1.trans (hop_way he)
      rw [List.append_nil, List.append_nil] at h2
      have hb := stB_fin (hst (el m.2 p2) (el_mem hp2))
      simp only [finB, Bool.or_eq_true, inB, Bool.and_eq_true, decide_eq_true_eq, beq_iff_eq] at hb
      exact ⟨hz', p2, d + e, h2, hp2, hfi, by rw [hg, hee]; omega⟩
/-- What costs something costs no more in it. -/
theorem way_rem {m : Mc} (hr : faultM m = 0) {H : Nat → Nat → Int} (hH : HopT m H) {q : Nat} (hq : q < m.2.length) {u v : List Int} {p c : Nat} (h : Way m.2 q u v p c) : p < m.2.length ∧ ∃ q' d e, Way (remM H m).2 q u v q' d ∧ q' < m.2.length ∧ HopC m.2 q' p e ∧ d + e ≤ c := by
  induction h with
  | nil => exact ⟨hq, q, 0, 0, .nil, hq, ⟨0, .nil⟩, Nat.le_refl _⟩
  | @snoc u v p c h a ha t ht ih =>
    obtain ⟨hp, q', d, e, h1, hq', ⟨n, h2⟩, h3⟩ := ih
    have hw := (right_parts hr).2 (el m.2 p) (el_mem hp)
    simp only [stB, Bool.and_eq_true, List.all_eq_true] at hw
    have hw := hw.2 _ ha
    simp only [arcB, inB, Bool.and_eq_true, decide_eq_true_eq] at hw
    have htl : t < m.2.length := by omega
    refine ⟨htl, ?_⟩
    rcases Bool.eq_false_or_eq_true (empA a) with he | he
    · obtain ⟨e1, e2⟩ := empA_iff.1 he
      refine ⟨q', d, e + a.2.2.1.toNat, by simpa [lab, e1, e2] using h1, hq', ⟨n + 1, h2.step ⟨a, ha, he, ht, rfl⟩⟩, by omega⟩
    · obtain ⟨hn, hle⟩ := (hH q' p hq' hp).le ⟨n, h2⟩
      have hb0 := (hH q' p hq' hp).bd.1
      obtain ⟨b, hb, hl⟩ := light_some (remArc_mem (l := m.2) hn ha he hp)
      obtain ⟨l1, l2, l3, l4⟩ := less_iff.1 hl
      have hb' : b ∈ (el (remM H m).2 q').2 := by rw [rem_el H m hq']; exact hb
      have h4 := Way.snoc h1 hb' (t := t) (by rw [l3]; exact ht)
      rw [l1, l2] at h4
      refine ⟨t, _, 0, h4, htl, ⟨0, .nil⟩, ?_⟩
      have h5 : b.2.2.1 ≤ H q' p + a.2.2.1 := l4
      omega
theorem costs_rem {m : Mc} (hr : faultM m = 0) {H : Nat → Nat → Int} (hH : HopT m H) (hov : ovTo H m.2 m.2.length = false) {x y : List Int} {c : Nat} (h : Costs m x y c) : ∃ d, d ≤ c ∧ Costs (remM H m) x y d := by
  obtain ⟨hz, p, d, hw, hp, hf, rfl⟩ := h
  obtain ⟨⟨hzl, hzu⟩, hst⟩ := right_parts hr
  have hq : m.1.toNat < m.2.length := by omega
  obtain ⟨_, q', d', e, h1, hq', h2, h3⟩ := way_rem hr hH hq hw
  obtain ⟨hn, hle⟩ := (hH q' p hq' hp).le h2
  have hb0 := (hH q' p hq' hp).bd.1
  have h4 := remFin_le (H := H) (l := m.2) (q := q') hn hf hp
  have hb := stB_fin (hst (el m.2 p) (el_mem hp))
  simp only [finB, Bool.or_eq_true, inB, Bool.and_eq_true, decide_eq_true_eq, beq_iff_eq] at hb
  rcases fin_told (ov_none hov q' hq') with ⟨e1, _⟩ | ⟨e1, e2, e3⟩
  · rcases (hH q' p hq' hp).bd.2 with g | g
    · exact absurd g hn
    · rw [e1] at h4; unfold noneI at h4; omega
  · refine ⟨d' + (remFin H m.2 q' m.2.length).toNat, by omega, hz, q', d', h1, by rw [rem_len]; exact hq', ?_, ?_⟩
    · rw [rem_el H m hq']
      show tldN (remFin H m.2 q' m.2.length) ≠ 1000000001
      rw [e3]; omega
    · rw [rem_el H m hq']
      show _ = d' + (tldN (remFin H m.2 q' m.2.length)).toNat
      rw [e3]
/-- RemoveKeeps. -/
theorem rem_cst {m : Mc} (hr : faultM m = 0) {H : Nat → Nat → Int} (hH : HopT m H) (hov : ovTo H m.2 m.2.length = false) {x y : List Int} {a b : Int} (ha : CstIs (Costs m x y) a) (hb : CstIs (Costs (remM H m) x y) b) : b = a := hb.sub ha (fun c h => rem_costs hr hH hov h) (fun c h => costs_rem hr hH hov h)
end Go.Proofs.YtfekmlblldhieaaGreatDoor.Pl
namespace Go.Proofs.YtfekmlblldhieaaGreatDoor.Pl
set_option linter.unusedVariables false
set_option linter.unusedSimpArgs false
theorem rem_full {H : Nat → Nat → Int} {l : List St} {q : Nat} {a : Ar} (h : a ∈ remL H l q) : empA a = false := by
  obtain ⟨p, _, _, b, _, he, rfl⟩ := mem_remArc (merge_sub _ _ h)
  exact he
/-- No arc is empty. -/
def NoEmp (l : List St) : Prop := ∀ q, q < l.length → ∀ a ∈ (el l q).2, empA a = false
theorem rem_noEmp (H : Nat → Nat → Int) (m : Mc) : NoEmp (remM H m).2 := fun q hq a ha => by
  rw [rem_len] at hq
  rw [rem_el H m hq] at ha
  exact rem_full ha
theorem noEmp_run {l : List St} (h : NoEmp l) {q n p c : Nat} (hr : Run (EmpE l) q n p c) : p = q ∧ c = 0 := by
  induction hr with
  | nil => exact ⟨rfl, rfl⟩
  | step h1 e ih =>
    obtain ⟨a, ha, he, ht, hw⟩ := e
    obtain ⟨rfl, _⟩ := ih
    rw [h _ (arcE_in (l := l) ⟨a, ha, ht, hw⟩) a ha] at he
    cases he
theorem noEmp_hop {m : Mc} (h : NoEmp m.2) {H : Nat → Nat → Int} (hH : HopT m H) {q p : Nat} (hq : q < m.2.length) (hp : p < m.2.length) : H q p = if p = q then 0 else noneI := by
  refine (hH q p hq hp).one ?_
  by_cases e : p = q
  · subst e
    rw [if_pos rfl]
    exact .inr ⟨0, ⟨⟨0, .nil⟩, fun d _ => Nat.zero_le _⟩, rfl, by omega⟩
  · rw [if_neg e]
    exact .inl ⟨rfl, fun c ⟨n, hn⟩ => e (noEmp_run h hn).1⟩
/-- Weights below ten. -/
def NineL (l : List St) : Prop := ∀ s ∈ l, (s.1 ≠ 1000000001 → s.1 ≤ 9) ∧ ∀ a ∈ s.2, a.2.2.1 ≤ 9
theorem nine_hop {m : Mc} (hr : faultM m = 0) (h9 : NineL m.2) {H : Nat → Nat → Int} (hH : HopT m H) {q p : Nat} (hq : q < m.2.length) (hp : p < m.2.length) (hn : H q p ≠ noneI) : 0 ≤ H q p ∧ H q p ≤ ((m.2.length : Int) + 1) * 9 := by
  have h0 := (hH q p hq hp).bd.1
  refine ⟨h0, ?_⟩
  obtain ⟨c, ⟨n, hc⟩, hce⟩ := (hH q p hq hp).get hn
  obtain ⟨d, _, h2, h3⟩ := (run_via (fun k w j e => (emp_small hr e).1) hc).cheap (W := 9) (fun x w y e => by
    obtain ⟨a, ha, _, _, rfl⟩ := e
    have hx : x < m.2.length := arcE_in (l := m.2) (w := a.2.2.1.toNat) (j := y) ⟨a, ha, by assumption, rfl⟩
    have := (h9 (el m.2 x) (el_mem hx)).2 a ha
    omega)
  have h4 := ((hH q p hq hp).le h3.run).2
  have h5 : (d : Int) ≤ ((m.2.length : Int) + 1) * 9 := by
    have : ((m.2.length + 1) * 9 : Nat) = ((m.2.length : Int) + 1) * 9 := by push_cast; rfl
    omega
  omega
theorem nine_arc {m : Mc} (hr : faultM m = 0) (h9 : NineL m.2) (h8 : m.2.length ≤ 8) {H : Nat → Nat → Int} (hH : HopT m H) {q : Nat} (hq : q < m.2.length) {a : Ar} (ha : a ∈ remL H m.2 q) : arcB m.2.length a = true ∧ a.2.2.1 ≤ 90 := by
  obtain ⟨p, hp, hn, b, hb, _, rfl⟩ := mem_remArc (merge_sub _ _ ha)
  have h1 := nine_hop hr h9 hH hq hp hn
  have h2 := (h9 (el m.2 p) (el_mem hp)).2 b hb
  have hw := (right_parts hr).2 (el m.2 p) (el_mem hp)
  simp only [stB, Bool.and_eq_true, List.all_eq_true] at hw
  have hw := hw.2 _ hb
  simp only [arcB, inB, Bool.and_eq_true, decide_eq_true_eq] at hw
  have h3 : ((m.2.length : Int) + 1) * 9 ≤ 81 := by omega
  obtain ⟨h0, h1'⟩ := h1
  refine ⟨?_, by show H q p + b.2.2.1 ≤ 90; omega⟩
  simp only [arcB, inB, Bool.and_eq_true, decide_eq_true_eq]
  refine ⟨⟨⟨by show 0 ≤ b.1 ∧ b.1 ≤ 1000; omega, by show 0 ≤ b.2.1 ∧ b.2.1 ≤ 1000; omega⟩, by show 0 ≤ H q p + b.2.2.1 ∧ H q p + b.2.2.1 ≤ 1000000000; omega⟩, ?_⟩
  show 0 ≤ b.2.2.2 ∧ b.2.2.2 ≤ (m.2.length : Int) - 1
  omega
theorem nine_fin {m : Mc} (hr : faultM m = 0) (h9 : NineL m.2) (h8 : m.2.length ≤ 8) {H : Nat → Nat → Int} (hH : HopT m H) {q : Nat} (hq : q < m.2.length) : remFin H m.2 q m.2.length = noneI ∨ (0 ≤ remFin H m.2 q m.2.length ∧ remFin H m.2 q m.2.length ≤ 90) := by
  rcases remFin_has (H := H) (l := m.2) (q := q) m.2.length with h | ⟨p, hp, hn, hf, hg⟩
  · exact .inl h
  · right
    have h1 := nine_hop hr h9 hH hq hp hn
    have h2 := (h9 (el m.2 p) (el_mem hp)).1 hf
    have hb := stB_fin ((right_parts hr).2 (el m.2 p) (el_mem hp))
    simp only [finB, Bool.or_eq_true, inB, Bool.and_eq_true, decide_eq_true_eq, beq_iff_eq] at hb
    have h3 : ((m.2.length : Int) + 1) * 9 ≤ 81 := by omega
    rw [hg]
    omega
theorem nine_ov {m : Mc} (hr : faultM m = 0) (h9 : NineL m.2) (h8 : m.2.length ≤ 8) {H : Nat → Nat → Int} (hH : HopT m H) : ∀ {n : Nat}, n ≤ m.2.length → ovTo H m.2 n = false
  | 0, _ => rfl
  | n + 1, hn => by
    simp only [ovTo, Bool.or_eq_false_iff]
    refine ⟨nine_ov hr h9 h8 hH (by omega), ?_⟩
    simp only [ovB, Bool.or_eq_false_iff, decide_eq_false_iff_not, Decidable.not_not, List.any_eq_false]
    refine ⟨?_, fun a ha => ?_⟩
    · unfold tldE
      rcases nine_fin hr h9 h8 hH (show n < m.2.length by omega) with h | ⟨_, h⟩
      · rw [if_pos h]
      · split
        · rfl
        · rw [if_neg (by omega)]
    · have := (nine_arc hr h9 h8 hH (show n < m.2.length by omega) ha).2
      simp only [bigA, decide_eq_true_eq]
      omega
theorem nine_right {m : Mc} (hr : faultM m = 0) (h9 : NineL m.2) (h8 : m.2.length ≤ 8) (h32 : arcN m.2 ≤ 32) {H : Nat → Nat → Int} (hH : HopT m H) : faultM (remM H m) = 0 ∧ CheapL (remM H m).2 := by
  have hov := nine_ov hr h9 h8 hH (Nat.le_refl _)
  have hel : ∀ s ∈ (remM H m).2, ∃ q, q < m.2.length ∧ s = remS H m.2 q := fun s hs => by
    simp only [remM, List.mem_map, List.mem_range] at hs
    obtain ⟨q, hq, rfl⟩ := hs
    exact ⟨q, hq, rfl⟩
  have hfin : ∀ q, q < m.2.length → (remS H m.2 q).1 = 1000000001 ∨ (0 ≤ (remS H m.2 q).1 ∧ (remS H m.2 q).1 ≤ 90) := fun q hq => by
    show tldN _ = _ ∨ (0 ≤ tldN _ ∧ tldN _ ≤ _)
    rcases fin_told (ov_none hov q hq) with ⟨_, e⟩ | ⟨e1, _, e2⟩
    · exact .inl e
    · rcases nine_fin hr h9 h8 hH hq with g | g
      · exact absurd g e1
      · rw [e2]; exact .inr g
  refine ⟨faultM_ok ?_ ?_, fun s hs => ?_⟩
  · have h1 : arcN (remM H m).2 ≤ (remM H m).2.length * 32 := arcN_each fun s hs => by
      obtain ⟨q, hq, rfl⟩ := hel s hs
      exact Nat.le_trans (remL_le H m.2 q) h32
    rw [rem_len] at h1
    simp only [sizeB, Bool.and_eq_true, decide_eq_true_eq]
    rw [rem_len]
    omega
  · unfold rangeB
    rw [rem_len]
    simp only [Bool.and_eq_true, List.all_eq_true]
    refine ⟨?_, fun s hs => ?_⟩
    · have := (right_parts hr).1
      simp only [inB, Bool.and_eq_true, decide_eq_true_eq]
      exact this
    · obtain ⟨q, hq, rfl⟩ := hel s hs
      simp only [stB, Bool.and_eq_true, List.all_eq_true]
      refine ⟨?_, fun a ha => (nine_arc hr h9 h8 hH hq ha).1⟩
      simp only [finB, Bool.or_eq_true, inB, Bool.and_eq_true, decide_eq_true_eq, beq_iff_eq]
      have := hfin q hq
      omega
  · obtain ⟨q, hq, rfl⟩ := hel s hs
    refine ⟨fun h => ?_, fun a ha => ?_⟩
    · have := hfin q hq
      omega
    · have := (nine_arc hr h9 h8 hH hq ha).2
      omega
end Go.Proofs.YtfekmlblldhieaaGreatDoor.Pl
namespace Go.Proofs.YtfekmlblldhieaaGreatDoor.Pl
set_option linter.unusedVariables false
set_option linter.unusedSimpArgs false
/-- Weights are none above W. -/
def LowL (W : Int) (l : List St) : Prop := ∀ s ∈ l, (s.1 ≠ 1000000001 → s.1 ≤ W) ∧ ∀ a ∈ s.2, a.2.2.1 ≤ W
theorem NineL.low {l : List St} (h : NineL l) : LowL 9 l := h
theorem LowL.cheap {W : Int} {l : List St} (h : LowL W l) (hW : W ≤ 1000) : CheapL l := fun s hs => ⟨fun hn => by have := (h s hs).1 hn; omega, fun a ha => by have := (h s hs).2 a ha; omega⟩
theorem exp_rng {a b : Mc} (ha : faultM a = 0) (hb : faultM b = 0) {t : Tr} {h : Hp} (hh : h ∈ expT a b t) : 0 ≤ h.1 ∧ h.1 ≤ 1000 ∧ 0 ≤ h.2.1 ∧ h.2.1 ≤ 1000 ∧ 0 ≤ h.2.2.1 := by
  unfold expT at hh
  rcases mem_expL.1 hh with ⟨x, hx, y, hy, _, rfl⟩ | ⟨x, hx, _, _, rfl⟩ | ⟨y, hy, _, _, rfl⟩
  · have h1 := arc_rightP ha (el_in hx) hx
    have h2 := arc_rightP hb (el_in hy) hy
    simp only [hopM]
    omega
  · have h1 := arc_rightP ha (el_in hx) hx
    simp only [hopL]
    omega
  · have h2 := arc_rightP hb (el_in hy) hy
    simp only [hopR]
    omega
theorem exp_low {a b : Mc} {W V : Int} (h0 : 0 ≤ W) (h1 : 0 ≤ V) (ha : LowL W a.2) (hb : LowL V b.2) {t : Tr} {h : Hp} (hh : h ∈ expT a b t) : h.2.2.1 ≤ W + V := by
  unfold expT at hh
  have la : ∀ {q : Nat} {x : Ar}, x ∈ (el a.2 q).2 → x.2.2.1 ≤ W := fun hx => (ha _ (el_mem (el_in hx))).2 _ hx
  have lb : ∀ {q : Nat} {x : Ar}, x ∈ (el b.2 q).2 → x.2.2.1 ≤ V := fun hx => (hb _ (el_mem (el_in hx))).2 _ hx
  rcases mem_expL.1 hh with ⟨x, hx, y, hy, _, rfl⟩ | ⟨x, hx, _, _, rfl⟩ | ⟨y, hy, _, _, rfl⟩
  · have := la hx
    have := lb hy
    simp only [hopM]
    omega
  · have := la hx
    simp only [hopL]
    omega
  · have := lb hy
    simp only [hopR]
    omega
theorem expO_low {a b : Mc} {W V : Int} (h0 : 0 ≤ W) (h1 : 0 ≤ V) (hs : W + V ≤ 1000000000) (ha : LowL W a.2) (hb : LowL V b.2) {t : Tr} (ht : trB a b t = true) : expO a b t = false := by
  obtain ⟨s, r, e, hs1, hr1, _⟩ := trB_nat ht
  unfold expO
  rw [Bool.or_eq_false_iff, List.any_eq_false]
  constructor
  · rw [e]
    simp only [Int.toNat_natCast, Bool.and_eq_false_iff, bne_eq_false_iff_eq, decide_eq_false_iff_not]
    by_cases g1 : (el a.2 s).1 = 1000000001
    · exact .inl (.inl g1)
    · by_cases g2 : (el b.2 r).1 = 1000000001
      · exact .inl (.inr g2)
      · right
        have := (ha _ (el_mem hs1)).1 g1
        have := (hb _ (el_mem hr1)).1 g2
        omega
  · intro h hh
    have := exp_low h0 h1 ha hb hh
    simp only [decide_eq_true_eq]
    omega
theorem trB_may {a b : Mc} {t : Tr} (h1 : 0 ≤ t.1 ∧ t.1 < (a.2.length : Int)) (h2 : 0 ≤ t.2.1 ∧ t.2.1 < (b.2.length : Int)) (h3 : 0 ≤ t.2.2 ∧ t.2.2 ≤ 2) : trB a b t = true := by
  simp only [trB, inB, Bool.and_eq_true, decide_eq_true_eq]
  omega
/-- Hops lead to triples. -/
theorem exp_trB {a b : Mc} (ha : faultM a = 0) (hb : faultM b = 0) {t : Tr} (ht : trB a b t = true) {h : Hp} (hh : h ∈ expT a b t) : trB a b h.2.2.2 = true := by
  obtain ⟨s, r, e, hs1, hr1, hf0, hf2⟩ := trB_nat ht
  unfold expT at hh
  rcases mem_expL.1 hh with ⟨x, hx, y, hy, _, rfl⟩ | ⟨x, hx, _, _, rfl⟩ | ⟨y, hy, _, _, rfl⟩
  · obtain ⟨p, e1, e2⟩ := (arc_rightP ha (el_in hx) hx).2.2.2.2.2.2
    obtain ⟨q, e3, e4⟩ := (arc_rightP hb (el_in hy) hy).2.2.2.2.2.2
    refine trB_may ?_ ?_ ?_ <;> simp only [hopM] <;> omega
  · obtain ⟨p, e1, e2⟩ := (arc_rightP ha (el_in hx) hx).2.2.2.2.2.2
    rw [e]
    refine trB_may ?_ ?_ ?_ <;> simp only [hopL] <;> omega
  · obtain ⟨q, e3, e4⟩ := (arc_rightP hb (el_in hy) hy).2.2.2.2.2.2
    rw [e]
    refine trB_may ?_ ?_ ?_ <;> simp only [hopR] <;> omega
/-- Not too large. -/
theorem cpsS_size {a b : Mc} : ∀ (k q : Nat) (L : List Tr) (S : List St) (n : Nat) (x : Mc), CmpI a b q L S → L.length ≤ 60 → n = arcN S → n ≤ 400 → cpsS a b k q L S n = (x, 0) → x.2.length ≤ 60 ∧ arcN x.2 ≤ 400 := by
  intro k
  induction k with
  | zero => intro q L S n x h h6 hn h4 e; simp only [cpsS, Prod.mk.injEq] at e; exact absurd e.2 (by decide)
  | succ k ih =>
    intro q L S n x h h6 hn h4 e
    simp only [cpsS] at e
    split at e
    · rename_i hq
      split at e
      · rename_i he
        simp only [Prod.mk.injEq] at e
        exact absurd e.2 he
      · rename_i he
        split at e
        · simp only [Prod.mk.injEq] at e; exact absurd e.2 (by decide)
        · rename_i hf
          have hl : (cpsH (expT a b (el L q)) L).2.length = (expT a b (el L q)).length := by rw [(cpsH_facts _ L h.nodup).2.2.2, List.length_map]
          refine ih _ _ _ _ _ (h.step hq (by simpa using he)) (by omega) ?_ (by omega) e
          rw [arcN_append, hn]
          simp only [arcN]
          omega
    · rename_i hq
      simp only [Prod.mk.injEq] at e
      obtain ⟨rfl, _⟩ := e
      have h1 := h.len
      have h2 := h.le
      exact ⟨by simp only; omega, by simp only; omega⟩
theorem finB_may {n : Int} (h : n = 1000000001 ∨ (0 ≤ n ∧ n ≤ 1000000000)) : finB n = true := by
  simp only [finB, inB, Bool.or_eq_true, Bool.and_eq_true, decide_eq_true_eq]
  exact h
theorem arcB_may {n : Nat} {x : Ar} (h1 : 0 ≤ x.1 ∧ x.1 ≤ 1000) (h2 : 0 ≤ x.2.1 ∧ x.2.1 ≤ 1000) (h3 : 0 ≤ x.2.2.1 ∧ x.2.2.1 ≤ 1000000000) (h4 : 0 ≤ x.2.2.2 ∧ x.2.2.2 < (n : Int)) : arcB n x = true := by
  simp only [arcB, inB, Bool.and_eq_true, decide_eq_true_eq]
  omega
/-- What is composed is right, and of small weights where both are. -/
theorem cmp_right {a b x : Mc} (ha : faultM a = 0) (hb : faultM b = 0) (h1 : 0 ≤ a.1) (h2 : 0 ≤ b.1) (h : cpsA a b = (x, 0)) : faultM x = 0 ∧ 0 < x.2.length ∧ x.1 = 0 := by
  obtain ⟨hz, L, hI⟩ := cpsA_done ha hb h1 h2 h
  have hsz : x.2.length ≤ 60 ∧ arcN x.2 ≤ 400 := by
    unfold cpsA at h
    rw [if_neg (by simpa using ha), if_neg (by simpa using hb), if_neg (by omega)] at h
    exact cpsS_size _ _ _ _ _ _ (CmpI.init a b) (by simp) rfl (Nat.zero_le 400) h
  obtain ⟨xz, S⟩ := x
  simp only at hz hI hsz ⊢
  subst hz
  have hL := hI.zero.1
  have hlen := hI.len
  refine ⟨faultM_ok ?_ ?_, by omega, rfl⟩
  · simp only [sizeB, Bool.and_eq_true, decide_eq_true_eq]
    exact hsz
  · simp only [rangeB, Bool.and_eq_true, List.all_eq_true]
    refine ⟨by simp only [inB, Bool.and_eq_true, decide_eq_true_eq]; omega, fun s hs => ?_⟩
    obtain ⟨i, hi, rfl⟩ := mem_el hs
    obtain ⟨_, _, k1, k2⟩ := expE_zero (hI.right i (by omega))
    obtain ⟨s, r, e, hs1, hr1, _⟩ := trB_nat k1
    rw [hI.sts i (by omega)]
    simp only [stB, Bool.and_eq_true, List.all_eq_true]
    unfold expO at k2
    rw [Bool.or_eq_false_iff, List.any_eq_false] at k2
    refine ⟨?_, fun y hy => ?_⟩
    · have k3 := k2.1
      rw [e] at k3 ⊢
      simp only [Int.toNat_natCast, Bool.and_eq_false_iff, bne_eq_false_iff_eq, decide_eq_false_iff_not] at k3
      refine finB_may ?_
      simp only [finTr, Int.toNat_natCast]
      unfold bothI
      by_cases g1 : (el a.2 s).1 = 1000000001
      · simp [g1]
      · by_cases g2 : (el b.2 r).1 = 1000000001
        · simp [g2]
        · rw [if_neg (by simp [g1, g2])]
          have := (fin_small ha hs1 g1).1
          have := (fin_small hb hr1 g2).1
          omega
    · obtain ⟨g, hg, rfl⟩ := List.mem_map.1 hy
      have r1 := exp_rng ha hb hg
      have r2 := k2.2 g hg
      have r3 := (el_idx (hI.shut i (by omega) g hg)).1
      simp only [decide_eq_true_eq] at r2
      refine arcB_may ⟨r1.1, r1.2.1⟩ ⟨r1.2.2.1, r1.2.2.2.1⟩ ⟨r1.2.2.2.2, by simp only [arcTr]; omega⟩ ?_
      simp only [arcTr]
      omega
theorem cmp_low {a b x : Mc} {W V : Int} (h0 : 0 ≤ W) (h3 : 0 ≤ V) (la : LowL W a.2) (lb : LowL V b.2) (ha : faultM a = 0) (hb : faultM b = 0) (h1 : 0 ≤ a.1) (h2 : 0 ≤ b.1) (h : cpsA a b = (x, 0)) : LowL (W + V) x.2 := by
  obtain ⟨hz, L, hI⟩ := cpsA_done ha hb h1 h2 h
  intro s hs
  have hlen := hI.len
  obtain ⟨i, hi, rfl⟩ := mem_el hs
  obtain ⟨_, _, k1, k2⟩ := expE_zero (hI.right i (by omega))
  obtain ⟨s, r, e, hs1, hr1, _⟩ := trB_nat k1
  rw [hI.sts i (by omega)]
  refine ⟨?_, fun y hy => ?_⟩
  · rw [e]
    simp only [finTr, Int.toNat_natCast]
    unfold bothI
    by_cases g1 : (el a.2 s).1 = 1000000001
    · simp [g1]
    · by_cases g2 : (el b.2 r).1 = 1000000001
      · simp [g2]
      · rw [if_neg (by simp [g1, g2])]
        intro _
        have := (la _ (el_mem hs1)).1 g1
        have := (lb _ (el_mem hr1)).1 g2
        omega
  · obtain ⟨g, hg, rfl⟩ := List.mem_map.1 hy
    simp only [arcTr]
    exact exp_low h0 h3 la lb hg
/-- Of small weights: composed, or too large. -/
theorem cpsS_low {a b : Mc} {W V : Int} (h0 : 0 ≤ W) (h1 : 0 ≤ V) (hs : W + V ≤ 1000000000) (ha : LowL W a.2) (hb : LowL V b.2) (fa : faultM a = 0) (fb : faultM b = 0) :
    ∀ (k q : Nat) (L : List Tr) (S : List St) (n : Nat), CmpI a b q L S → (∀ t ∈ L, trB a b t = true) → (cpsS a b k q L S n).2 = 0 ∨ cpsS a b k q L S n = ((0, []), 5) := by
  intro k
  induction k with
  | zero => intro q L S n h hT; exact .inr rfl
  | succ k ih =>
    intro q L S n h hT
    simp only [cpsS]
    split
    · rename_i hq
      have ht := hT _ (el_mem hq)
      have he : expE a b (el L q) = 0 := by
        unfold expE
        rw [if_neg (by simpa using fa), if_neg (by simpa using fb), if_neg (by simp [ht]), if_neg (by simp [expO_low h0 h1 hs ha hb ht])]
      rw [if_neg (by simpa using he)]
      split
      · exact .inr rfl
      · refine ih _ _ _ _ (h.step hq he) fun t htL => ?_
        exact cpsH_all (fun t => trB a b t = true) _ L hT (fun g hg => exp_trB fa fb ht hg) t htL
    · exact .inl rfl
where
  cpsH_all (P : Tr → Prop) : ∀ (hs : List Hp) (L : List Tr), (∀ t ∈ L, P t) → (∀ g ∈ hs, P g.2.2.2) → ∀ t ∈ (cpsH hs L).1, P t := by
    intro hs
    induction hs with
    | nil => intro L h _ t ht; exact h t ht
    | cons g hs ih =>
      intro L h hg t ht
      refine ih _ (fun t ht => ?_) (fun k hk => hg k (List.mem_cons_of_mem _ hk)) t ht
      unfold addQ at ht
      split at ht
      · exact h t ht
      · rcases List.mem_append.1 ht with k | k
        · exact h t k
        · rw [List.mem_singleton.1 k]
          exact hg g (List.mem_cons_self ..)
theorem cmp_full {a b : Mc} {W V : Int} (h0 : 0 ≤ W) (h3 : 0 ≤ V) (hs : W + V ≤ 1000000000) (la : LowL W a.2) (lb : LowL V b.2) (ha : faultM a = 0) (hb : faultM b = 0) (h1 : 0 ≤ a.1) (h2 : 0 ≤ b.1) : (cpsA a b).2 = 0 ∨ cpsA a b = ((0, []), 5) := by
  unfold cpsA
  rw [if_neg (by simpa using ha), if_neg (by simpa using hb), if_neg (by omega)]
  refine cpsS_low h0 h3 hs la lb ha hb _ _ _ _ _ (CmpI.init a b) fun t ht => ?_
  rw [List.mem_singleton.1 ht]
  have k1 := (right_parts ha).1
  have k2 := (right_parts hb).1
  refine trB_may ?_ ?_ ?_ <;> simp only <;> omega
end Go.Proofs.YtfekmlblldhieaaGreatDoor.Pl
