/- Small laws: several operations may come up; one arc more. -/
import Derived.Test.YtkeeiihaijhdoaaMcC
import Derived.Test.YtkeeiihaijhdoaaRg
namespace Go.Proofs.Ytkeeiihaijhdoaa.Wt
open Go.ChangeShapes Go.WideShapes Go.ChangeAt Go.RowKit
open Go.Proofs.Ytkeeiihaijhdoaa.Pl
set_option linter.unusedVariables false
set_option linter.unusedSimpArgs false
section
variable {P : Program} {ops : Array Oper} {Q : Exit → Act → World → Prop} {md : Region.Mode} {S : World → Prop} {L : Nat}
/-- Any of these may come up. -/
theorem anyL_br {rs : List Nat} {n : Nat} {listed : Array Bool} {a : Act} {w : World} (hr : Region.ready md ops listed = rs) (hne : rs ≠ [])
    (h : ∀ i ∈ rs, ∃ o, ops[i]? = some o ∧ o.guard = none ∧ ∀ K : Act → World → Prop, (∀ b x, (i = L ∨ S x) → AnyL P md ops Q S L n (listed.setIfInBounds i true) b x → K b x) → Oper.wp P o a w K Q) : AnyL P md ops Q S L (n + 1) listed a w := by
  refine ⟨fun h0 => absurd (hr ▸ h0) hne, ?_⟩
  rw [hr]
  intro j hj
  obtain ⟨o, hi, hg, h⟩ := h j hj
  refine wpOp_step hi (fun K hK => ?_)
  have hw : Region.wanted o (yielded ops a.tmps) = true := by simp [Region.wanted, hg]
  rw [if_pos hw]
  exact h K (fun b x h1 h2 => hK b x ⟨h1, h2⟩)
end
theorem own_mono' {w : World} {base base' : Nat} {e : TypeId} {s : Nat} {v : Value} {n : Nat} {xs : List Value} (h : w.ownsRow base e s v n xs) (hb : base' ≤ base) : w.ownsRow base' e s v n xs := by
  refine ⟨h.1, ?_⟩
  rcases h.2 with h2 | ⟨g, cap, cur, hv, hg, h3⟩
  · exact .inl h2
  · exact .inr ⟨g, cap, cur, hv, Nat.le_trans hb hg, h3⟩
theorem own_below' {w w' : World} {base : Nat} {e : TypeId} {s : Nat} {v : Value} {n : Nat} {xs : List Value} (h : w.ownsRow base e s v n xs) (hb : Below w.heap.size w w') : w'.ownsRow base e s v n xs :=
  h.kept (w' := w') (row := none) ⟨hb.os, hb.tape, hb.output, hb.size, fun k hk _ => hb.block k hk⟩ (by rcases v.ownBlock with _ | _ <;> simp)
/-- One arc, in a block of its own. -/
theorem one_arc (w : World) (p : Ar) : Row 4 encA (w.alloc (.cells #[.int .i64 p.1, .int .i64 p.2.1, .int .i64 p.2.2.1, .int .i64 p.2.2.2] 75)) (.slice (some ⟨w.heap.size, 0, none⟩) 1 1) [p] := by
  refine .inr ⟨⟨w.heap.size, 0, none⟩, 1, rfl, fun j hj i u hu => ?_⟩
  have hj0 : j = 0 := by simp at hj; exact hj
  subst hj0
  rw [Addr.add_lit]
  refine (Blk.made w _ _).cell _ ?_
  rw [Nat.zero_mul, Nat.zero_add, Nat.zero_add]
  rw [el_zero] at hu
  simpa [encA] using hu
theorem one_arc2 (w : World) (n : Nat) (p : Ar) (hn : w.heap.size = n) : Row 4 encA (w.alloc (.cells #[.int .i64 p.1, .int .i64 p.2.1, .int .i64 p.2.2.1, .int .i64 p.2.2.2] 75)) (.slice (some ⟨n, 0, none⟩) 1 1) [p] := by subst hn; exact one_arc w p
theorem own_snoc {w : World} {base : Nat} {v : Value} {n : Nat} {l : List Ar} {p : Ar} (h : w.ownsRow base 75 4 v (n + [p].length) (l.flatMap encA ++ [p].flatMap encA)) (hn : n = l.length) : w.ownsRow base 75 4 v (l ++ [p]).length ((l ++ [p]).flatMap encA) := by
  subst hn
  rw [List.length_append, List.flatMap_append]
  exact h
/-- One arc more. -/
theorem snoc_facts {w w' : World} {base : Nat} {vo v : Value} {l : List Ar} {p : Ar} {ob : Obj} (ho : w.ownsRow base 75 4 vo l.length (l.flatMap encA)) (hs : base ≤ w.heap.size) (h : w'.ownsRow base 75 4 v (l.length + [p].length) (l.flatMap encA ++ [p].flatMap encA)) (hg : (w.alloc ob).grownBy w' vo.ownBlock) :
    Hid (w'.ownsRow base 75 4 v (l ++ [p]).length ((l ++ [p]).flatMap encA)) ∧ Hid (Below base w w') ∧ Hid (base ≤ w'.heap.size) := by
  have hb : Below base w w' := ((Below.refl _ _).alloc hs ob).grown hg (by simp; omega) (own_geK ho)
  exact ⟨own_snoc h rfl, hb, Nat.le_trans hs hb.size⟩
end Go.Proofs.Ytkeeiihaijhdoaa.Wt
