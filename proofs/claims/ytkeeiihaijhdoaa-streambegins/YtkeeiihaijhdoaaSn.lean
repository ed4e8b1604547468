/- Arcs and numbers of the call's own, one by one: small laws that need no function of the program. -/
import Derived.Test.YtkeeiihaijhdoaaMcC
namespace Go.Proofs.Ytkeeiihaijhdoaa.Wt
open Go.ChangeShapes Go.WideShapes Go.ChangeAt Go.RowKit
open Go.Proofs.Ytkeeiihaijhdoaa.Pl
set_option linter.unusedVariables false
theorem ownMono {w : World} {base base' : Nat} {e : TypeId} {s : Nat} {v : Value} {n : Nat} {xs : List Value} (h : w.ownsRow base e s v n xs) (hb : base' ≤ base) : w.ownsRow base' e s v n xs := by
  refine ⟨h.1, ?_⟩
  rcases h.2 with h2 | ⟨g, cap, cur, hv, hg, h3⟩
  · exact .inl h2
  · exact .inr ⟨g, cap, cur, hv, Nat.le_trans hb hg, h3⟩
theorem grownBelow {w w' : World} (hb : Below w.heap.size w w') : w.grownBy w' none := ⟨hb.os, hb.tape, hb.output, hb.size, fun k hk _ => hb.block k hk⟩
theorem ownBelow {w w' : World} {base : Nat} {e : TypeId} {s : Nat} {v : Value} {n : Nat} {xs : List Value} (h : w.ownsRow base e s v n xs) (hb : Below w.heap.size w w') : w'.ownsRow base e s v n xs :=
  h.kept (grownBelow hb) (by rcases v.ownBlock with _ | _ <;> simp)
/-- One element, in a block of its own. -/
theorem oneRow {α : Type} [Inhabited α] {k : Nat} {enc : α → List Value} (w : World) (p : α) (hk : (enc p).length = k) (t : TypeId) : Row k enc (w.alloc (.cells (enc p).toArray t)) (.slice (some ⟨w.heap.size, 0, none⟩) 1 1) [p] := by
  refine .inr ⟨⟨w.heap.size, 0, none⟩, 1, rfl, fun j hj i u hu => ?_⟩
  have hj0 : j = 0 := by simp at hj; exact hj
  subst hj0
  rw [Addr.add_lit]
  refine (Blk.made w _ _).cell _ ?_
  rw [Nat.zero_mul, Nat.zero_add, Nat.zero_add]
  rw [el_zero] at hu
  simpa using hu
theorem snocFacts {α : Type} {k : Nat} {enc : α → List Value} {w w' : World} {base : Nat} {e : TypeId} {vo v : Value} {l : List α} {p : α} {ob : Obj} (ho : w.ownsRow base e k vo l.length (l.flatMap enc)) (hs : base ≤ w.heap.size) (h : w'.ownsRow base e k v (l.length + [p].length) (l.flatMap enc ++ [p].flatMap enc)) (hg : (w.alloc ob).grownBy w' vo.ownBlock) :
    Hid (w'.ownsRow base e k v (l ++ [p]).length ((l ++ [p]).flatMap enc)) ∧ Hid (Below base w w') ∧ Hid (base ≤ w'.heap.size) := by
  have hb : Below base w w' := ((Below.refl _ _).alloc hs ob).grown hg (by simp; omega) (own_geK ho)
  exact ⟨by show World.ownsRow _ _ _ _ _ _ _; rw [List.length_append, List.flatMap_append]; exact h, hb, Nat.le_trans hs hb.size⟩
theorem wpListAppendRun {P : Program} {ops : Array Oper} {Q : Exit → Act → World → Prop} {rest : List Oper} {o : Oper} {a : Act} {w w' : World} {v1 v2 v3 : Value} (hgd : o.guard = none) (x y : Operand) (t : TypeId) (ho : o.op = .call { callee := .builtin .append, args := #[x, y], argTypes := #[t, t] }) (hx : a.eval x = v1) (hy : a.eval y = v2)
    (hr : (Builtin.append_ #[t, t] o.type #[v1, v2]).run P w = .ok v3 w') (h : wpList P ops Q rest (a.put o.dst v3) w') : wpList P ops Q (o :: rest) a w :=
  wpList_plain hgd fun _ hK => wp_append_run x y t ho hx hy hr (hK _ _ h)
theorem boxedTwo {w w1 : World} {c0 c1 : Array Value} {t0 t1 : TypeId} {n : Nat} (hb : Below n ((w.alloc (.cells c0 t0)).alloc (.cells c1 t1)) w1) (hn : n = w.heap.size + 2) : w.heap.size + 2 ≤ w1.heap.size ∧ Blk w1 w.heap.size c0 t0 ∧ Blk w1 (w.heap.size + 1) c1 t1 ∧ Below w.heap.size w w1 := by
  subst hn
  have h := hb.size
  simp only [World.size_alloc] at h
  have k1 := Blk.made (w.alloc (.cells c0 t0)) c1 t1
  simp only [World.size_alloc] at k1
  exact ⟨h, ((Blk.made w c0 t0).alloc _).below hb (by omega), k1.below hb (by omega), (((Below.refl _ _).alloc (Nat.le_refl _) _).alloc (by simp) _).trans (hb.mono (by omega))⟩
theorem OwnSts.monoB {w : World} {base base' : Nat} {v : Value} {l : List St} (h : OwnSts w base v l) (hb : base' ≤ base) : OwnSts w base' v l := by
  obtain ⟨vs, h1, h2, h3⟩ := h
  exact ⟨vs, ownMono h1 hb, h2, fun j hj => ⟨(h3 j hj).1, ownMono (h3 j hj).2 hb⟩⟩
end Go.Proofs.Ytkeeiihaijhdoaa.Wt
