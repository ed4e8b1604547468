/- The function that fills the index of a table: two maps of places. -/
import Derived.Test.YtljpbkkofalinaaDoorNm
import Derived.Test.YtljpbkkofalinaaDoorBlk
import Derived.RegionTactic
import Derived.ChangeAlike
import Derived.BigRegion
import Derived.Maps.Own
import Derived.Laws.NewFold
namespace Go.Proofs.YtljpbkkofalinaaDoor.Wt
open Go.ChangeShapes Go.WideShapes Go.ChangeAt Go.RowKit Go.Maps
open Go.Proofs.YtljpbkkofalinaaDoor.Pl
set_option linter.unusedVariables false
theorem lawT : Keyed Tryd.prog 9 := string_keyed Tryd.underlying9
theorem lawL : Keyed Tryd.prog 3 := int_keyed Tryd.underlying3
def OwnT (w : World) (m n : Nat) (D : DataW Unit) : Prop := w.ownsMap Tryd.prog 9 (plainElem Tryd.prog 3) m n D
def OwnL (w : World) (m n : Nat) (D : DataW Unit) : Prop := w.ownsMap Tryd.prog 3 (plainElem Tryd.prog 3) m n D
theorem OwnT.next {w : World} {m k : Nat} {ns : List Nm} (h : OwnT w m k (tMap ns k)) (hk : k < 1000) (hs : (nm ns k).1.size ≤ maxLen) :
    ∃ w', (Instr.mapUpdate 80 (.map (some m)) (.string (nm ns k).1) (.int .i64 (k : Int))).run Tryd.prog w = .ok () w' ∧ OwnT w' m (k + 1) (tMap ns (k + 1)) ∧ w.grownBy w' (some m) :=
  World.ownsMap.update (R := plainElem Tryd.prog 3) h lawT Tryd.underlying80 (by unfold maxLen; omega) (Go.WideMaps.keyOf_string_mk Tryd.underlying9 hs) (plainElem_int Tryd.underlying3 (WalkArith.wf_i64 (by omega)))
theorem OwnL.next {w : World} {m k : Nat} {ns : List Nm} (h : OwnL w m k (lMap ns k)) (hk : k < 1000) (hs : (Lit.int .i64 (nm ns k).2).wf = true) :
    ∃ w', (Instr.mapUpdate 81 (.map (some m)) (.int .i64 (nm ns k).2) (.int .i64 (k : Int))).run Tryd.prog w = .ok () w' ∧ OwnL w' m (k + 1) (lMap ns (k + 1)) ∧ w.grownBy w' (some m) :=
  World.ownsMap.update (R := plainElem Tryd.prog 3) h lawL Tryd.underlying81 (by unfold maxLen; omega) (keyOf_int_mk Tryd.underlying3 hs) (plainElem_int Tryd.underlying3 (WalkArith.wf_i64 (by omega)))
/-- What stands behind k rounds. -/
structure Fill (B p b : Nat) (v d st se : Value) (ns : List Nm) (w0 : World) (bt bl k : Nat) (w : World) : Prop where
  bel : Below B w0 w
  var : Blk w p #[.pointer (some ⟨b, 0, none⟩)] 59
  idx : Blk w b #[v, d, st, se, .map (some bt), .map (some bl)] 83
  txt : OwnT w bt k (tMap ns k)
  lab : OwnL w bl k (lMap ns k)
  apart : bt ≠ bl
  gt : B ≤ bt
  gl : B ≤ bl
  size : B ≤ w.heap.size
theorem fill_start {B p b : Nat} {v d st se x4 x5 : Value} {ns : List Nm} {w : World} (hB : B ≤ b) (hpb : p ≠ b) (hp : Blk w p #[.pointer (some ⟨b, 0, none⟩)] 59)
    (hb : Blk w b #[v, d, st, se, x4, x5] 83) (hs : B ≤ w.heap.size) :
    Fill B p b v d st se ns w w.heap.size (w.heap.size + 1) 0 ((((w.setCell ⟨b, 4, none⟩ (.map (some w.heap.size))).setCell ⟨b, 5, none⟩ (.map (some (w.heap.size + 1)))).alloc (.map #[] 0)).alloc (.map #[] 0)).drew.drew := by
  have hbl := hb.lt
  have hpl := hp.lt
  have o1 := World.ownsMap_made (H := Unit) ((w.setCell ⟨b, 4, none⟩ (.map (some w.heap.size))).setCell ⟨b, 5, none⟩ (.map (some (w.heap.size + 1)))) Tryd.prog 9 (plainElem Tryd.prog 3)
  have e1 : ((w.setCell ⟨b, 4, none⟩ (.map (some w.heap.size))).setCell ⟨b, 5, none⟩ (.map (some (w.heap.size + 1)))).heap.size = w.heap.size := by simp
  rw [e1] at o1
  have o2 := World.ownsMap.alloc o1 (.map #[] 0)
  have l1 := World.ownsMap_made (H := Unit) (((w.setCell ⟨b, 4, none⟩ (.map (some w.heap.size))).setCell ⟨b, 5, none⟩ (.map (some (w.heap.size + 1)))).alloc (.map #[] 0)) Tryd.prog 3 (plainElem Tryd.prog 3)
  have e : (((w.setCell ⟨b, 4, none⟩ (.map (some w.heap.size))).setCell ⟨b, 5, none⟩ (.map (some (w.heap.size + 1)))).alloc (.map #[] 0)).heap.size = w.heap.size + 1 := by simp
  rw [e] at l1
  refine ⟨?_, ?_, ?_, o2, l1, by omega, by omega, by omega, ?_⟩
  · exact (((((Below.refl _ _).setCell hB _).setCell hB _).alloc (by simp; omega) _).alloc (by simp; omega) _).drew.drew
  · exact (((hp.setO _ _ (by simpa using hpb)).setO _ _ (by simpa using hpb)).alloc _).alloc _
  · exact ((((hb.set 4 _).set 5 _).alloc _).alloc _)
  · show B ≤ ((((w.setCell ⟨b, 4, none⟩ (.map (some w.heap.size))).setCell ⟨b, 5, none⟩ (.map (some (w.heap.size + 1)))).alloc (.map #[] 0)).alloc (.map #[] 0)).heap.size
    simp; omega
theorem fill_step {B p b : Nat} {v d st se : Value} {ns : List Nm} {w0 w w1 w2 : World} {bt bl k : Nat} (h : Fill B p b v d st se ns w0 bt bl k w) (o : Obj)
    (g1 : (w.alloc o).drew.grownBy w1 (some bt)) (g2 : w1.drew.grownBy w2 (some bl)) (t : OwnT w1 bt (k + 1) (tMap ns (k + 1))) (l : OwnL w2 bl (k + 1) (lMap ns (k + 1))) :
    Fill B p b v d st se ns w0 bt bl (k + 1) w2 := by
  have n1 := map_ne_blk h.idx h.txt
  have n2 := map_ne_blk h.idx h.lab
  have n3 := map_ne_blk h.var h.txt
  have n4 := map_ne_blk h.var h.lab
  have s1 : B ≤ (w.alloc o).drew.heap.size := by show B ≤ (w.alloc o).heap.size; simp; have := h.size; omega
  refine ⟨?_, ?_, ?_, World.ownsMap.kept (World.ownsMap.drew t) g2 (by simpa using h.apart), l, h.apart, h.gt, h.gl, ?_⟩
  · exact ((h.bel.alloc h.size o).drew.grown g1 s1 (fun j hj => by cases hj; exact h.gt)).drew.grown g2 (Nat.le_trans s1 g1.size) (fun j hj => by cases hj; exact h.gl)
  · exact ((h.var.alloc o).drew.grown g1 (by simpa using n3)).drew.grown g2 (by simpa using n4)
  · exact ((h.idx.alloc o).drew.grown g1 (by simpa using n1)).drew.grown g2 (by simpa using n2)
  · exact Nat.le_trans s1 (Nat.le_trans g1.size g2.size)
end Go.Proofs.YtljpbkkofalinaaDoor.Wt
