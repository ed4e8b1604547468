/- Regions that draw their order: what is read may be taken first as long as nobody but one operation, which waits for it, writes it. -/
import Derived.OrdersHeld
import Derived.Deep.RegionHeld3
import Derived.BigRegion
namespace Go.Proofs.YtfekmlblldhieaaDoor.Wt
open Go
section
variable {P : Program} {ops : Array Oper} {Q : Exit → Act → World → Prop} {md : Region.Mode} {S : World → Prop} {L : Nat}
/-- Whatever order is picked; behind each operation but number L the fact S holds. -/
def AnyL (P : Program) (md : Region.Mode) (ops : Array Oper) (Q : Exit → Act → World → Prop) (S : World → Prop) (L : Nat) : Nat → Array Bool → Act → World → Prop
  | 0, listed, a, w => Region.ready md ops listed = [] ∧ Q .normal a w
  | n + 1, listed, a, w => (Region.ready md ops listed = [] → Q .normal a w) ∧
      ∀ i ∈ Region.ready md ops listed, wpOp P ops Q i (fun b x => (i = L ∨ S x) ∧ AnyL P md ops Q S L n (listed.setIfInBounds i true) b x) a w
theorem AnyL.any : ∀ (n : Nat) (listed : Array Bool) (a : Act) (w : World), AnyL P md ops Q S L n listed a w → wpAny P md ops Q n listed a w
  | 0, _, _, _, h => h
  | n + 1, _, _, _, h => ⟨h.1, fun i hi => wpOp_mono (fun b x k => AnyL.any n _ b x k.2) (h.2 i hi)⟩
/-- Does number L wait for number i? -/
def waits (md : Region.Mode) (ops : Array Oper) (L i : Nat) : Bool := match ops[L]? with
  | some o => o.after.any fun e => Region.binds md e && e.on == i
  | none => true
theorem waits_spec {i : Nat} (h : waits md ops L i = true) {o : Oper} (ho : ops[L]? = some o) : ∃ e ∈ o.after, Region.binds md e = true ∧ e.on = i := by
  unfold waits at h
  rw [ho] at h
  obtain ⟨j, hj, h1⟩ := Array.any_eq_true.1 h
  simp only [Bool.and_eq_true, beq_iff_eq] at h1
  exact ⟨_, Array.getElem_mem hj, h1.1, h1.2⟩
theorem AnyL.first {i : Nat} {o : Oper} {v : Value} (hi : ops[i]? = some o) (hw : waits md ops L i = true) (hsel : ∀ (j : Nat) (p : Oper) cs d, ops[j]? = some p → p.op ≠ .select cs d) (hQ : ∀ c a w, Q (.panic c) (a.put o.dst v) w → Q (.panic c) a w) :
    ∀ (n : Nat) (listed : Array Bool) (a : Act) (w : World),
      (∀ j p, ops[j]? = some p → j ≠ i → listed.getD j true = false → (∀ e ∈ p.after, Region.binds md e = true → e.on ≠ i) → o.apart ops p = true) →
      i ∈ Region.ready md ops listed → YieldsIf P ops S o v a → S w → AnyL P md ops Q S L n (listed.setIfInBounds i true) (a.put o.dst v) w → AnyL P md ops Q S L (n + 1) listed a w := by
  intro n
  induction n with
  | zero =>
    intro listed a w _ hr hy hS H
    refine ⟨fun h => (by rw [h] at hr; cases hr), fun j hj => ?_⟩
    by_cases hji : j = i
    · subst hji; exact hy.wpOp hi hS ⟨.inr hS, H⟩
    · have h1 := ready_mono hj hji
      rw [H.1] at h1
      cases h1
  | succ n ih =>
    intro listed a w hfree hr hy hS H
    refine ⟨fun h => (by rw [h] at hr; cases hr), fun j hj => ?_⟩
    by_cases hji : j = i
    · subst hji; exact hy.wpOp hi hS ⟨.inr hS, H⟩
    · have h1 := H.2 j (ready_mono hj hji)
      obtain ⟨hjun, p, hp, hall⟩ := mem_ready.1 hj
      have hnot : ∀ e ∈ p.after, Region.binds md e = true → e.on ≠ i := fun e he hb heq => by
        have k1 := hall e he hb
        have k0 := (mem_ready.1 hr).1
        rw [heq] at k1
        rcases Nat.lt_or_ge i listed.size with g | g
        · simp [g] at k0 k1; rw [k0] at k1; cases k1
        · simp [Array.getElem?_eq_none g] at k1
      have hjL : j ≠ L := fun e => by
        subst e
        obtain ⟨e, he, hb, hon⟩ := waits_spec hw hp
        exact hnot e he hb hon
      have h2 := wpOp_putIf hp (hfree j p hp hji hjun hnot) (fun cs d => hsel i o cs d hi) (fun cs d => hsel j p cs d hp) hQ hy h1
      have hri : i ∈ Region.ready md ops (listed.setIfInBounds j true) := ready_mono hr (Ne.symm hji)
      have hfree2 : ∀ k q, ops[k]? = some q → k ≠ i → (listed.setIfInBounds j true).getD k true = false → (∀ e ∈ q.after, Region.binds md e = true → e.on ≠ i) → o.apart ops q = true := fun k q hk hki hun hno => by
        refine hfree k q hk hki ?_ hno
        by_cases hjk : j = k
        · subst hjk; exact hjun
        · rw [getD_set_ne true hjk] at hun; exact hun
      refine wpOp_mono (fun b x h3 => ?_) h2
      obtain ⟨y, hl, hA⟩ := h3
      rcases hl with hl | hSx
      · exact absurd hl hjL
      · exact ⟨.inr hSx, ih (listed.setIfInBounds j true) b x hfree2 hri y hSx (by rw [Array.setIfInBounds_comm _ _ hji]; exact hA)⟩
theorem at0 {o : Oper} {l : List Oper} : (o :: l).toArray[0]? = some o := rfl
theorem atS {o x : Oper} {l : List Oper} {n : Nat} (h : l.toArray[n]? = some o) : (x :: l).toArray[n + 1]? = some o := by simpa using h
/-- Number i is taken first. -/
theorem anyL_take {i : Nat} {o : Oper} {v : Value} {n : Nat} {listed : Array Bool} {a : Act} {w : World} (hi : ops[i]? = some o) (hw : waits md ops L i = true)
    (hs : Region.noSelect ops = true) (hf : Region.free md ops listed i = true) (hr : (Region.ready md ops listed).contains i = true)
    (hQ : ∀ c a w, Q (.panic c) (a.put o.dst v) w → Q (.panic c) a w) (hg : o.guard = none) (hy : ∀ w, S w → (execOp a.eval o).run P w = .ok (.value v) w) (hS : S w)
    (h : AnyL P md ops Q S L n (listed.setIfInBounds i true) (a.put o.dst v) w) : AnyL P md ops Q S L (n + 1) listed a w :=
  AnyL.first hi hw (Region.noSelect_spec hs) hQ n listed a w (Region.free_spec hi hf) (by simpa using hr) (.inl ⟨by simp [Region.wanted, hg], hy⟩) hS h
/-- Number i alone may come up. -/
theorem anyL_one {i : Nat} {o : Oper} {n : Nat} {listed : Array Bool} {a : Act} {w : World} (hi : ops[i]? = some o) (hr : Region.ready md ops listed = [i]) (hg : o.guard = none)
    (h : ∀ K : Act → World → Prop, (∀ b x, (i = L ∨ S x) → AnyL P md ops Q S L n (listed.setIfInBounds i true) b x → K b x) → Oper.wp P o a w K Q) : AnyL P md ops Q S L (n + 1) listed a w := by
  refine ⟨fun h0 => absurd (hr ▸ h0) (by simp), ?_⟩
  rw [hr]
  intro j hj
  obtain rfl : j = i := by simpa using hj
  refine wpOp_step hi (fun K hK => ?_)
  have hw : Region.wanted o (yielded ops a.tmps) = true := by simp [Region.wanted, hg]
  rw [if_pos hw]
  exact h K (fun b x h1 h2 => hK b x ⟨h1, h2⟩)
/-- Number i is taken first; its guard is decided. -/
theorem anyL_takeG {i : Nat} {o : Oper} {v : Value} {n : Nat} {listed : Array Bool} {a : Act} {w : World} (hi : ops[i]? = some o) (hw : waits md ops L i = true)
    (hs : Region.noSelect ops = true) (hf : Region.free md ops listed i = true) (hr : (Region.ready md ops listed).contains i = true)
    (hQ : ∀ c a w, Q (.panic c) (a.put o.dst v) w → Q (.panic c) a w) (hg : Region.wanted o (yielded ops a.tmps) = true) (hy : ∀ w, S w → (execOp a.eval o).run P w = .ok (.value v) w) (hS : S w)
    (h : AnyL P md ops Q S L n (listed.setIfInBounds i true) (a.put o.dst v) w) : AnyL P md ops Q S L (n + 1) listed a w :=
  AnyL.first hi hw (Region.noSelect_spec hs) hQ n listed a w (Region.free_spec hi hf) (by simpa using hr) (.inl ⟨hg, hy⟩) hS h
/-- Number i is passed over by its guard. -/
theorem anyL_skip {i : Nat} {o : Oper} {n : Nat} {listed : Array Bool} {a : Act} {w : World} (hi : ops[i]? = some o) (hw : waits md ops L i = true)
    (hs : Region.noSelect ops = true) (hf : Region.free md ops listed i = true) (hr : (Region.ready md ops listed).contains i = true)
    (hQ : ∀ c a w, Q (.panic c) (a.put o.dst undef) w → Q (.panic c) a w) (hg : Region.wanted o (yielded ops a.tmps) = false) (hS : S w)
    (h : AnyL P md ops Q S L n (listed.setIfInBounds i true) (a.put o.dst undef) w) : AnyL P md ops Q S L (n + 1) listed a w :=
  AnyL.first hi hw (Region.noSelect_spec hs) hQ n listed a w (Region.free_spec hi hf) (by simpa using hr) (.inr ⟨hg, rfl⟩) hS h
/-- Number i alone may come up; its guard is decided. -/
theorem anyL_oneG {i : Nat} {o : Oper} {n : Nat} {listed : Array Bool} {a : Act} {w : World} (hi : ops[i]? = some o) (hr : Region.ready md ops listed = [i]) (hg : Region.wanted o (yielded ops a.tmps) = true)
    (h : ∀ K : Act → World → Prop, (∀ b x, (i = L ∨ S x) → AnyL P md ops Q S L n (listed.setIfInBounds i true) b x → K b x) → Oper.wp P o a w K Q) : AnyL P md ops Q S L (n + 1) listed a w := by
  refine ⟨fun h0 => absurd (hr ▸ h0) (by simp), ?_⟩
  rw [hr]
  intro j hj
  obtain rfl : j = i := by simpa using hj
  refine wpOp_step hi (fun K hK => ?_)
  rw [if_pos hg]
  exact h K (fun b x h1 h2 => hK b x ⟨h1, h2⟩)
theorem anyL_done {n : Nat} {listed : Array Bool} {a : Act} {w : World} (hr : Region.ready md ops listed = []) (h : Q .normal a w) : AnyL P md ops Q S L n listed a w := by
  cases n with
  | zero => exact ⟨hr, h⟩
  | succ n => exact ⟨fun _ => h, by rw [hr]; simp⟩
/-- An append whose run is known. -/
theorem wp_append_run {o : Oper} {a : Act} {w w' : World} {K : Act → World → Prop} {v1 v2 v3 : Value} (x y : Operand) (t : TypeId) (ho : o.op = .call { callee := .builtin .append, args := #[x, y], argTypes := #[t, t] }) (hx : a.eval x = v1) (hy : a.eval y = v2)
    (hr : (Builtin.append_ #[t, t] o.type #[v1, v2]).run P w = .ok v3 w') (h : K (a.put o.dst v3) w') : o.wp P a w K Q := by
  unfold Oper.wp execOp
  simp only [ho, resolve, invoke, builtin, Sem.run_bind, Sem.run_pure, Result.andThen_ok, List.map_toArray, List.map_cons, List.map_nil, hx, hy, hr]
  exact h
/-- The beginning. -/
theorem region_anyL (S : World → Prop) (L : Nat) {id : Nat} {a : Act} {w : World} (hm : P.follows .mixedOrders = true) (h : AnyL P .any ops (NoPanic Q) S L ops.size (Array.replicate ops.size false) a w.drew) : (Code.region id ops true).wp P Q a w :=
  wp_region_noPanic (wp_region_any hm (AnyL.any _ _ _ _ h))
end
end Go.Proofs.YtfekmlblldhieaaDoor.Wt
