/- The statement's own copy of a machine. -/
import Derived.Test.YtfekmlblldhieaaGreatDoorMc
import Derived.Test.YtfekmlblldhieaaGreatDoorRg
import Derived.Test.YtfekmlblldhieaaGreatDoorBlk
namespace Go.Proofs.YtfekmlblldhieaaGreatDoor.Wt
open Go.ChangeShapes Go.WideShapes Go.ChangeAt Go.RowKit
open Go.Proofs.YtfekmlblldhieaaGreatDoor.Pl
set_option linter.unusedVariables false
set_option linter.unusedSimpArgs false
/-- The slice value v is the call's own and holds the states l, each with arcs of the call's own. -/
def OwnSts (w : World) (base : Nat) (v : Value) (l : List St) : Prop :=
  ∃ vs : List (Int × Value), w.ownsRow base 31 2 v vs.length (vs.flatMap encS) ∧ vs.length = l.length ∧ ∀ j, j < l.length → (el vs j).1 = (el l j).1 ∧ w.ownsRow base 33 4 (el vs j).2 (el l j).2.length ((el l j).2.flatMap encA)
theorem OwnSts.nil (w : World) (base : Nat) : OwnSts w base (.slice none 0 0) [] := ⟨[], World.ownsRow_nil _ _ _ _, rfl, by simp⟩
theorem OwnSts.sts {w : World} {base : Nat} {v : Value} {l : List St} (h : OwnSts w base v l) : Sts w v l := by
  obtain ⟨vs, h1, h2, h3⟩ := h
  exact ⟨vs, Row.ofOwn encS_len h1 rfl, h2, fun j hj => ⟨(h3 j hj).1, Row.ofOwn encA_len (h3 j hj).2 rfl⟩⟩
theorem OwnSts.kept {w w' : World} {base : Nat} {v : Value} {l : List St} (h : OwnSts w base v l) (hg : w.grownBy w' none) : OwnSts w' base v l := by
  obtain ⟨vs, h1, h2, h3⟩ := h
  refine ⟨vs, h1.kept hg ?_, h2, fun j hj => ⟨(h3 j hj).1, (h3 j hj).2.kept hg ?_⟩⟩
  · rcases v.ownBlock with _ | _ <;> simp
  · rcases (el vs j).2.ownBlock with _ | _ <;> simp
theorem OwnSts.setCell {w : World} {base : Nat} {v : Value} {l : List St} (h : OwnSts w base v l) {a : Addr} (ha : a.block < base) (u : Value) : OwnSts (w.setCell a u) base v l := by
  obtain ⟨vs, h1, h2, h3⟩ := h
  exact ⟨vs, ownsRow_setCell_below h1 ha u, h2, fun j hj => ⟨(h3 j hj).1, ownsRow_setCell_below (h3 j hj).2 ha u⟩⟩
theorem grown_drew {w w' : World} {row : Option Nat} (h : w.drew.grownBy w' row) : w.grownBy w' row := ⟨h.os, h.tape, h.output, h.size, h.block⟩
theorem own_sl {w : World} {base : Nat} {e : TypeId} {s : Nat} {v : Value} {n : Nat} {xs : List Value} (h : w.ownsRow base e s v n xs) : ∃ a c, v = .slice a n c := by
  rcases h.2 with ⟨hv, rfl⟩ | ⟨g, cap, cur, hv, _⟩
  · exact ⟨_, _, hv⟩
  · exact ⟨_, _, hv⟩
theorem below_new {w w' : World} {base : Nat} (hs : base ≤ w.heap.size) (hg : w.grownBy w' none) : Below base w w' := (Below.refl _ _).grown hg hs (by simp)
theorem own_zero {w : World} {base : Nat} {e : TypeId} {s : Nat} {v : Value} {n : Nat} {xs : List Value} (h : w.ownsRow base e s v (0 + n) ([] ++ xs)) : w.ownsRow base e s v n xs := by simpa using h
theorem own_one {w : World} {base : Nat} {e : TypeId} {s : Nat} {v : Value} {n : Nat} {xs : List Value} (h : w.ownsRow base e s v n xs) : v.oneCell' = true := by
  rcases h.2 with ⟨hv, _⟩ | ⟨g, cap, cur, hv, _⟩ <;> rw [hv] <;> rfl
/-- append(out, State{..}), out and the state's arcs the call's own. -/
theorem run_push {W w1 : World} (s : St) (l : List St) (va vo : Value) (base : Nat)
    (hW : W.heap = w1.heap.push (.cells #[.int .i64 s.1, va] 31)) (hos : W.os = w1.os) (htp : W.tape = w1.tape) (hou : W.output = w1.output)
    (hown : OwnSts w1 base vo l) (hva : w1.ownsRow base 33 4 va s.2.length (s.2.flatMap encA)) (hl : (l.length + 1) * 32 ≤ 140737488355328) (hbase : base ≤ w1.heap.size) :
    ∃ v3 w3, (Builtin.append_ #[25, 25] 25 #[vo, .slice (some ⟨w1.heap.size, 0, none⟩) 1 1]).run Tryz.prog W = .ok v3 w3 ∧ OwnSts w3 base v3 (l ++ [s]) ∧ Below base w1 w3 := by
  obtain ⟨i1, hi1, hy0, hy1, hy2⟩ := info_parts infoState
  obtain ⟨vs, q1, q2, q3⟩ := hown
  have e1 : ∀ k, k < w1.heap.size → W.heap[k]? = w1.heap[k]? := fun k hk => by rw [hW, Array.getElem?_push_lt hk, Array.getElem?_eq_getElem hk]
  have e0 : W.heap[w1.heap.size]? = some (.cells #[.int .i64 s.1, va] 31 (0, 0)) := by rw [hW]; simp
  have es : W.heap.size = w1.heap.size + 1 := by rw [hW]; simp
  have hg : w1.grownBy W none := ⟨hos, htp, hou, by omega, fun k hk _ => e1 k hk⟩
  have kn : ∀ v : Value, v.ownBlock = none ∨ v.ownBlock ≠ none := fun v => by rcases v.ownBlock with _ | _ <;> simp
  have hvo := q1.kept hg (kn _)
  obtain ⟨v3, w3, hr, h1, h2, _⟩ := run_append_own (P := Tryz.prog) W base 25 25 31 i1 _ 2 32 Tryz.underlying25 hi1 hy0 hy1 hy2 rfl (by omega) vo vs.length (vs.flatMap encS) hvo ⟨w1.heap.size, 0, none⟩ 1 1 [.int .i64 s.1, va] rfl (World.news_of_block (cs := #[.int .i64 s.1, va]) e0) (by
    intro u hu
    simp at hu
    rcases hu with rfl | rfl
    · rfl
    · exact own_one hva) (by rw [q2]; unfold maxLen; omega) (by rw [q2]; exact hl) (by omega)
  refine ⟨v3, w3, hr, ⟨vs ++ [(s.1, va)], by simpa [encS] using h1, by simp [q2], ?_⟩, ?_⟩
  · intro j hj
    have hj' : j < l.length ∨ j = l.length := by simp at hj; omega
    rcases hj' with hj' | rfl
    · rw [el_left (by omega), el_left hj']
      have := (q3 j hj').2.kept hg (kn _)
      exact ⟨(q3 j hj').1, this.kept h2 (own_apart this hvo (by decide))⟩
    · rw [el_last, ← q2, el_last]
      have := hva.kept hg (kn _)
      exact ⟨rfl, this.kept h2 (own_apart this hvo (by decide))⟩
  · exact ((Below.refl _ _).grown hg hbase (by simp)).grown h2 (by omega) (own_geK hvo)
theorem blk_a (w : World) (c0 c1 c2 : Array Value) (t : TypeId) : Blk (((w.alloc (.cells c0 t)).alloc (.cells c1 t)).alloc (.cells c2 t)) w.heap.size c0 t := ((Blk.made w c0 t).alloc _).alloc _
theorem blk_b (w : World) (c0 c1 c2 : Array Value) (t : TypeId) : Blk (((w.alloc (.cells c0 t)).alloc (.cells c1 t)).alloc (.cells c2 t)) (w.heap.size + 1) c1 t := by
  have h := Blk.made (w.alloc (.cells c0 t)) c1 t
  simp only [World.size_alloc] at h
  exact h.alloc _
theorem blk_c (w : World) (c0 c1 c2 : Array Value) (t : TypeId) : Blk (((w.alloc (.cells c0 t)).alloc (.cells c1 t)).alloc (.cells c2 t)) (w.heap.size + 2) c2 t := by
  have h := Blk.made ((w.alloc (.cells c0 t)).alloc (.cells c1 t)) c2 t
  simp only [World.size_alloc] at h
  exact h
/-- The cells that a round of the copy reads. -/
def HeldC (B b off n cap k : Nat) (vo va : Value) (f : Int) (w : World) : Prop :=
  w.cell? ⟨B, 1, none⟩ = some (.slice (some ⟨b, off, none⟩) n cap) ∧ w.cell? ⟨B + 1 + 1, 1, none⟩ = some vo ∧ w.cell? ⟨b, off + k * 2, none⟩ = some (.int .i64 f) ∧ w.cell? ⟨b, off + k * 2 + 1, none⟩ = some va
theorem HeldC.below {B b off n cap k : Nat} {vo va : Value} {f : Int} {w w' : World} (h : HeldC B b off n cap k vo va f w) (hb : Below (B + 3) w w') (hB : b < B) : HeldC B b off n cap k vo va f w' := by
  obtain ⟨h1, h2, h3, h4⟩ := h
  exact ⟨(hb.cell (show B < _ by omega)).trans h1, (hb.cell (show B + 1 + 1 < _ by omega)).trans h2, (hb.cell (show b < _ by omega)).trans h3, (hb.cell (show b < _ by omega)).trans h4⟩
end Go.Proofs.YtfekmlblldhieaaGreatDoor.Wt
