/- Lists of bools in memory. -/
import Derived.Test.YtpfcljhbamnghabMc
import Derived.Test.YtpfcljhbamnghabRg
import Derived.Test.YtpfcljhbamnghabBlk
import Derived.Test.YtpfcljhbamnghabPlainZ
import Derived.Laws.MakeOwn
namespace Go.Proofs.Ytpfcljhbamnghab.Wt
open Go.ChangeShapes Go.WideShapes Go.ChangeAt Go.RowKit
open Go.Proofs.Ytpfcljhbamnghab.Pl
set_option linter.unusedVariables false
set_option linter.unusedSimpArgs false
def encB (b : Bool) : List Value := [.bool b]
/-- The slice value v holds the bools. -/
def Bools (w : World) (v : Value) (bs : List Bool) : Prop := Row 1 encB w v bs
theorem Bools.later {w w' : World} {v : Value} {bs : List Bool} (h : Bools w v bs) {B : Nat} (hb : Below B w w') (hB : w.heap.size ≤ B) : Bools w' v bs := Row.later h hb hB
theorem Bools.get {w : World} {v : Value} {bs : List Bool} (h : Bools w v bs) : ∃ a cap, v = .slice a bs.length cap ∧ ∀ j, j < bs.length → ∃ b off, a = some ⟨b, off, none⟩ ∧ b < w.heap.size ∧ w.cell? ⟨b, off + j, none⟩ = some (.bool (el bs j)) := by
  by_cases hz : 0 < bs.length
  · obtain ⟨b, off, cap, hv, hb, hc⟩ := Row.plain h (fun x => by simp [encB]) hz
    refine ⟨_, cap, hv, fun j hj => ⟨b, off, rfl, hb, ?_⟩⟩
    have := hc j hj 0 _ rfl
    rwa [Nat.mul_one, Nat.add_zero] at this
  · obtain ⟨a, cap, hv⟩ := Row.sl h
    exact ⟨a, cap, hv, fun j hj => by omega⟩
theorem bools_block {w : World} {g cap : Nat} {bs : List Bool} {t : TypeId} (h : Blk w g (bs.map Value.bool).toArray t) : Bools w (.slice (some ⟨g, 0, none⟩) bs.length cap) bs := by
  refine .inr ⟨⟨g, 0, none⟩, cap, rfl, fun j hj i u hu => ?_⟩
  cases i with
  | zero =>
    rw [Addr.add_lit, Nat.zero_add, Nat.mul_one, Nat.add_zero]
    refine h.cell _ ?_
    simp [encB] at hu
    subst hu
    simp [hj, el]
  | succ i => simp [encB] at hu
theorem made_bools (n : Nat) : madeCells (Value.cells (.bool false)) (n * 1) = ((List.replicate n false).map Value.bool).toArray := by
  have hz : Value.cells (.bool false) = #[.bool false] := rfl
  apply Array.ext_getElem?
  intro t
  simp only [madeCells, hz, Array.getElem?_map, List.map_replicate]
  by_cases ht : t < n
  · simp [ht, Nat.mod_one]
  · simp [ht]
theorem set_bool {bs : List Bool} {q : Nat} : (bs.map Value.bool).toArray.setIfInBounds q (.bool true) = ((bs.set q true).map Value.bool).toArray := by simp [List.map_set]
theorem bool_cell {w : World} {g : Nat} {bs : List Bool} {t : TypeId} (h : Blk w g (bs.map Value.bool).toArray t) {j : Nat} (hj : j < bs.length) : w.cell? ⟨g, j, none⟩ = some (.bool (el bs j)) := by
  refine h.cell _ ?_
  simp [hj, el]
theorem infoBool : (Try.prog.info? 4).map (fun i => (i.zero, i.size, i.bytes)) = some (some (.bool false), 1, 1) := by kernel_rfl
end Go.Proofs.Ytpfcljhbamnghab.Wt
