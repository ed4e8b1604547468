/- The program: what lies in memory while states are told. -/
import Derived.Test.YtfffelgmgghldabJ11c
import Derived.Test.YtfffelgmgghldabTx
namespace Go.Proofs.Ytfffelgmgghldab.Wt
open Go.ChangeShapes Go.WideShapes Go.ChangeAt Go.RowKit
open Go.Proofs.Ytfffelgmgghldab.Pl
set_option linter.unusedVariables false
set_option linter.unusedSimpArgs false
/-- Two rows in other blocks. -/
def Apart (a b : Value) : Prop := a.ownBlock = none ∨ b.ownBlock = none ∨ a.ownBlock ≠ b.ownBlock
theorem Apart.symm {a b : Value} (h : Apart a b) : Apart b a := by
  rcases h with h | h | h
  · exact .inr (.inl h)
  · exact .inl h
  · exact .inr (.inr (Ne.symm h))
theorem Apart.or {a b : Value} (h : Apart a b) : a.ownBlock = none ∨ a.ownBlock ≠ b.ownBlock := by
  rcases h with h | h | h
  · exact .inl h
  · rw [h]; rcases a.ownBlock with _ | _ <;> simp
  · exact .inr h
theorem Apart.near {w : World} {a b b' : Value} {base : Nat} {e : TypeId} {s n : Nat} {xs : List Value} (h : Apart a b) (ho : w.ownsRow base e s a n xs) (hn : Near w b.ownBlock b') : Apart a b' := by
  rcases hn with e | ⟨c, e, hc⟩
  · unfold Apart at *; rw [e]; exact h
  · rcases ha : a.ownBlock with _ | k
    · exact .inl ha
    · refine .inr (.inr ?_)
      rw [ha, e]
      have := (ho.lt k ha).2
      intro e2; simp at e2; omega
/-- While states are told: the machine's box M, the counts O, the variable B with the heap's row, the order's row. -/
structure ToldAt (w wr : World) (O B base : Nat) (mc : Array Value) (ns : List Int) (v vo : Value) (hs out : List Int) : Prop where
  box : Blk wr w.heap.size mc 27
  cnt : Blk wr O (ns.map (Value.int .i64)).toArray 3
  var : Blk wr B #[v] 77
  heap : wr.ownsRow base 3 1 v hs.length (hs.flatMap encI1)
  ord : wr.ownsRow base 3 1 vo out.length (out.flatMap encI1)
  apart : Apart vo v
  below : Below w.heap.size w wr
  s0 : w.heap.size < O
  s1 : O < B
  s2 : B < base
  s3 : base ≤ wr.heap.size
variable {w wr w' : World} {O B base : Nat} {mc : Array Value} {ns : List Int} {v vo v' : Value} {hs out hs' out' : List Int}
theorem ToldAt.later (h : ToldAt w wr O B base mc ns v vo hs out) (hb : Below wr.heap.size wr w') : ToldAt w w' O B base mc ns v vo hs out :=
  ⟨h.box.below hb h.box.lt, h.cnt.below hb h.cnt.lt, h.var.below hb h.var.lt, ownBelow h.heap hb, ownBelow h.ord hb, h.apart, h.below.trans (hb.mono h.below.size), h.s0, h.s1, h.s2, Nat.le_trans h.s3 hb.size⟩
theorem ToldAt.alloc (h : ToldAt w wr O B base mc ns v vo hs out) (o : Obj) : ToldAt w (wr.alloc o) O B base mc ns v vo hs out := h.later ((Below.refl _ _).alloc (Nat.le_refl _) _)
theorem ToldAt.put (h : ToldAt w wr O B base mc ns v vo hs out) (t : Nat) (x : Int) : ToldAt w (wr.setCell ⟨O, t, none⟩ (.int .i64 x)) O B base mc (ns.set t x) v vo hs out := by
  have h0 := h.s0
  have h1 := h.s1
  have h2 := h.s2
  refine ⟨h.box.setO _ _ (by show w.heap.size ≠ O; omega), ?_, h.var.setO _ _ (by show B ≠ O; omega), ownsRow_setCell_below h.heap (by show O < base; omega) _, ownsRow_setCell_below h.ord (by show O < base; omega) _, h.apart, h.below.setCell (by show w.heap.size ≤ O; omega) _, h0, h1, h2, by simp [World.setCell]; exact h.s3⟩
  have h9 := h.cnt.set t (.int .i64 x)
  rw [set_num] at h9
  exact h9
theorem ToldAt.turn (h : ToldAt w wr O B base mc ns v vo hs out) (ht : Turn2 wr w' B v.ownBlock) (hv : Blk w' B #[v'] 77) (ho : w'.ownsRow base 3 1 v' hs'.length (hs'.flatMap encI1)) (hn : Near wr v.ownBlock v') : ToldAt w w' O B base mc ns v' vo hs' out := by
  have h0 := h.s0
  have h1 := h.s1
  have h2 := h.s2
  have hlow : ∀ k, k < base → some k ≠ v.ownBlock := fun k hk e => by have := (h.heap.lt k e.symm).1; omega
  exact ⟨ht.blk h.box (by omega) (hlow _ (by omega)), ht.blk h.cnt (by omega) (hlow _ (by omega)), hv, ho, ht.row h.ord (Ne.symm (own_ne h.ord h.var (by decide))) h.apart.or, h.apart.near h.ord hn, h.below.trans (ht.below (by omega) (fun k hk => by have := (h.heap.lt k hk).1; omega) h.below.size), h0, h1, h2, Nat.le_trans h.s3 ht.size⟩
theorem ToldAt.more (h : ToldAt w wr O B base mc ns v vo hs out) (hg : wr.grownBy w' vo.ownBlock) (ho : w'.ownsRow base 3 1 v' out'.length (out'.flatMap encI1)) (hn : Near wr vo.ownBlock v') : ToldAt w w' O B base mc ns v v' hs out' := by
  have h0 := h.s0
  have h1 := h.s1
  have h2 := h.s2
  have hlow : ∀ k, k < base → some k ≠ vo.ownBlock := fun k hk e => by have := (h.ord.lt k e.symm).1; omega
  exact ⟨h.box.grown hg (hlow _ (by omega)), h.cnt.grown hg (hlow _ (by omega)), h.var.grown hg (hlow _ (by omega)), h.heap.kept hg h.apart.symm.or, ho, (h.apart.symm.near h.heap hn).symm, h.below.trans ((Below.refl _ _).grown hg h.below.size (fun k hk => by have := (h.ord.lt k hk).1; omega)), h0, h1, h2, Nat.le_trans h.s3 hg.size⟩
end Go.Proofs.Ytfffelgmgghldab.Wt
