/- Lists of bools in memory; the statement's comparison of two. -/
import Derived.Test.YtfkiiedbcjbkiaaMc
import Derived.Test.YtfkiiedbcjbkiaaRg
import Derived.Test.YtfkiiedbcjbkiaaBlk
import Derived.Test.YtfkiiedbcjbkiaaPlainZ
import Derived.Laws.MakeOwn
namespace Go.Proofs.Ytfkiiedbcjbkiaa.Wt
open Go.ChangeShapes Go.WideShapes Go.ChangeAt Go.RowKit
open Go.Proofs.Ytfkiiedbcjbkiaa.Pl
set_option linter.unusedVariables false
set_option linter.unusedSimpArgs false
def encB (b : Bool) : List Value := [.bool b]
/-- The slice value v holds the bools. -/
def Bools (w : World) (v : Value) (bs : List Bool) : Prop := Row 1 encB w v bs
theorem Bools.later {w w' : World} {v : Value} {bs : List Bool} (h : Bools w v bs) {B : Nat} (hb : Below B w w') (hB : w.heap.size ≤ B) : Bools w' v bs := Row.later h hb hB
theorem Bools.get {w : World} {v : Value} {bs : List Bool} (h : Bools w v bs) : ∃ a cap, v = .slice a bs.length cap ∧ ∀ j, j < bs.length → ∃ b off, a = some ⟨b, off, none⟩ ∧ b < w.heap.size ∧ w.cell? ⟨b, off + j, none⟩ = some (.bool (el bs j)) := by
  by_cases hz : 0 < bs.length
  · obtain ⟨b, off, cap, hv, hb, hc⟩ := Row.plain h (fun x => by simp [encB]) hz
    refine ⟨_, cap, hv, fun j hj => ⟨b, off, rfl, hb, ?_⟩⟩
    have := hc j hj 0 _ rfl
    rwa [Nat.mul_one, Nat.add_zero] at this
  · obtain ⟨a, cap, hv⟩ := Row.sl h
    exact ⟨a, cap, hv, fun j hj => by omega⟩
theorem bools_block {w : World} {g cap : Nat} {bs : List Bool} {t : TypeId} (h : Blk w g (bs.map Value.bool).toArray t) : Bools w (.slice (some ⟨g, 0, none⟩) bs.length cap) bs := by
  refine .inr ⟨⟨g, 0, none⟩, cap, rfl, fun j hj i u hu => ?_⟩
  cases i with
  | zero =>
    rw [Addr.add_lit, Nat.zero_add, Nat.mul_one, Nat.add_zero]
    refine h.cell _ ?_
    simp [encB] at hu
    subst hu
    simp [hj, el]
  | succ i => simp [encB] at hu
theorem made_bools (n : Nat) : madeCells (Value.cells (.bool false)) (n * 1) = ((List.replicate n false).map Value.bool).toArray := by
  have hz : Value.cells (.bool false) = #[.bool false] := rfl
  apply Array.ext_getElem?
  intro t
  simp only [madeCells, hz, Array.getElem?_map, List.map_replicate]
  by_cases ht : t < n
  · simp [ht, Nat.mod_one]
  · simp [ht]
theorem set_bool {bs : List Bool} {q : Nat} : (bs.map Value.bool).toArray.setIfInBounds q (.bool true) = ((bs.set q true).map Value.bool).toArray := by simp [List.map_set]
theorem bool_cell {w : World} {g : Nat} {bs : List Bool} {t : TypeId} (h : Blk w g (bs.map Value.bool).toArray t) {j : Nat} (hj : j < bs.length) : w.cell? ⟨g, j, none⟩ = some (.bool (el bs j)) := by
  refine h.cell _ ?_
  simp [hj, el]
theorem infoBool : (Try.prog.info? 4).map (fun i => (i.zero, i.size, i.bytes)) = some (some (.bool false), 1, 1) := by kernel_rfl
theorem sameBools_any (v1 v2 : Value) (l : List Bool) (w : World) (h1 : Bools w v1 l) (h2 : Bools w v2 l) (hl : l.length ≤ 4398046511104) :
    Calls Try.prog 11 #[v1, v2] w fun e w' => e = .returned (.bool true) ∧ Below w.heap.size w w' := by
  obtain ⟨a, cap, rfl, hc⟩ := h1.get
  obtain ⟨a2, cap2, rfl, hc2⟩ := h2.get
  have HC : Hid (∀ j, j < l.length → ∃ b off, a = some ⟨b, off, none⟩ ∧ b < w.heap.size ∧ w.cell? ⟨b, off + j, none⟩ = some (.bool (el l j))) := hc
  have HC2 : Hid (∀ j, j < l.length → ∃ b off, a2 = some ⟨b, off, none⟩ ∧ b < w.heap.size ∧ w.cell? ⟨b, off + j, none⟩ = some (.bool (el l j))) := hc2
  clear h1 h2 hc hc2
  generalize l.length = n at *
  go_enter Try.func11, Try.ntmps11
  go_wp2
  go_loopw [5] (fun i wr => ∃ k q : Nat, k ≤ n ∧ i = .int .i64 k ∧ wr = w.drewN q) (fun i _ => n - (intOf i).toNat)
  case atStart => exact ⟨0, 0, Nat.zero_le _, rfl, (World.drewN_zero w).symm⟩
  case round =>
    obtain ⟨k, q, hk, rfl, rfl⟩ := hrel
    by_cases hlt : k < n
    · obtain ⟨b, off, rfl, _, g0⟩ := HC.out k hlt
      obtain ⟨b2, off2, rfl, _, r0⟩ := HC2.out k hlt
      have hk0 : (0 : Int) ≤ (k : Int) := by omega
      have hk1 : (k : Int) < (n : Int) := by omega
      generalize el l k = x at *
      cases x
      all_goals
        go_wp2
        go_quiet (fail)
        go_wp2
        go_roundw
        case rel => exact ⟨k + 1, q + nq, by omega, by go_num, by first | rfl | rw [World.drewN_drewN]⟩
        case measure => simp [intOf]; omega
    · have hnl : ¬ (k : Int) < (n : Int) := by omega
      go_wp2
      go_ret
      exact ⟨rfl, below_drewN (Below.refl _ _) q⟩
end Go.Proofs.Ytfkiiedbcjbkiaa.Wt
