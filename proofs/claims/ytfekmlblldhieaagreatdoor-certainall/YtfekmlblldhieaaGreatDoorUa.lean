/- Worlds in which one block and one row have changed, and nothing else. -/
import Derived.Test.YtfekmlblldhieaaGreatDoorJ17j
namespace Go.Proofs.YtfekmlblldhieaaGreatDoor.Wt
open Go.ChangeShapes Go.WideShapes Go.ChangeAt Go.RowKit
open Go.Proofs.YtfekmlblldhieaaGreatDoor.Pl
set_option linter.unusedVariables false
set_option linter.unusedSimpArgs false
/-- Nothing has changed but block b and row r. -/
structure Turn2 (w w' : World) (b : Nat) (r : Option Nat) : Prop where
  os : w'.os = w.os
  tape : w'.tape = w.tape
  output : w'.output = w.output
  size : w.heap.size ≤ w'.heap.size
  block : ∀ k, k < w.heap.size → k ≠ b → some k ≠ r → w'.heap[k]? = w.heap[k]?
theorem Turn2.grown {w w' : World} {r : Option Nat} (h : w.grownBy w' r) (b : Nat) : Turn2 w w' b r := ⟨h.os, h.tape, h.output, h.size, fun k hk _ hne => h.block k hk hne⟩
theorem Turn2.set {w w' : World} {b : Nat} {r : Option Nat} (h : Turn2 w w' b r) (o : Nat) (v : Value) : Turn2 w (w'.setCell ⟨b, o, none⟩ v) b r :=
  ⟨h.os, h.tape, h.output, by simp [World.setCell]; exact h.size, fun k hk hb hne => (Below.heap_setCell w' _ _ k hb).trans (h.block k hk hb hne)⟩
theorem Turn2.trans {w w1 w2 : World} {b : Nat} {r r1 : Option Nat} (h : Turn2 w w1 b r) (k : Turn2 w1 w2 b r1) (hr : r1 = r ∨ ∃ c, r1 = some c ∧ w.heap.size ≤ c) : Turn2 w w2 b r := by
  refine ⟨k.os.trans h.os, k.tape.trans h.tape, k.output.trans h.output, Nat.le_trans h.size k.size, fun i hi hb hne => ?_⟩
  refine (k.block i (Nat.lt_of_lt_of_le hi h.size) hb ?_).trans (h.block i hi hb hne)
  rcases hr with rfl | ⟨c, rfl, hc⟩
  · exact hne
  · intro e; simp at e; omega
theorem Turn2.blk {w w' : World} {b : Nat} {r : Option Nat} (h : Turn2 w w' b r) {k : Nat} {cs : Array Value} {t : TypeId} (hk : Blk w k cs t) (hb : k ≠ b) (hr : some k ≠ r) : Blk w' k cs t := hk.keep (h.block k hk.lt hb hr)
theorem Turn2.row {w w' : World} {b : Nat} {r : Option Nat} (h : Turn2 w w' b r) {base : Nat} {e : TypeId} {s : Nat} {v : Value} {n : Nat} {xs : List Value} (ho : w.ownsRow base e s v n xs) (hb : v.ownBlock ≠ some b) (hr : v.ownBlock = none ∨ v.ownBlock ≠ r) : w'.ownsRow base e s v n xs := by
  refine ⟨ho.1, ?_⟩
  rcases ho.2 with hn | ⟨g, cap, cur, rfl, hbg, hgg, rest⟩
  · exact .inl hn
  · refine .inr ⟨g, cap, cur, rfl, hbg, ?_, rest⟩
    rw [h.block g (Array.getElem?_eq_some_iff.1 hgg).1 (by simpa [Value.ownBlock] using hb) (by simpa [Value.ownBlock] using hr)]
    exact hgg
theorem Turn2.below {w w' : World} {b : Nat} {r : Option Nat} (h : Turn2 w w' b r) {base : Nat} (hb : base ≤ b) (hr : ∀ k, r = some k → base ≤ k) (hs : base ≤ w.heap.size) : Below base w w' :=
  ⟨h.os, h.tape, h.output, h.size, fun k hk => h.block k (by omega) (by omega) (fun e => by have := hr k e.symm; omega)⟩
theorem belowDN (w : World) (q : Nat) : Below w.heap.size w (w.drewN q) := ⟨rfl, rfl, rfl, Nat.le_refl _, fun _ _ => rfl⟩
end Go.Proofs.YtfekmlblldhieaaGreatDoor.Wt
