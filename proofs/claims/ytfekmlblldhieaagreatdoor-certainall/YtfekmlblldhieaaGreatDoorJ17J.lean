/- Lists of bools in memory. Rows of numbers of the call's own. -/
import Derived.Test.YtfekmlblldhieaaGreatDoorMc
import Derived.Test.YtfekmlblldhieaaGreatDoorRg
import Derived.Test.YtfekmlblldhieaaGreatDoorBlk
import Derived.Test.YtfekmlblldhieaaGreatDoorJ17a
import Derived.Laws.MakeOwn
import Derived.Test.YtfekmlblldhieaaGreatDoorJ17j
namespace Go.Proofs.YtfekmlblldhieaaGreatDoor.Wt
open Go.ChangeShapes Go.WideShapes Go.ChangeAt Go.RowKit
open Go.Proofs.YtfekmlblldhieaaGreatDoor.Pl
set_option linter.unusedVariables false
set_option linter.unusedSimpArgs false
def encB (b : Bool) : List Value := [.bool b]
/-- The slice value v holds the bools. -/
def Bools (w : World) (v : Value) (bs : List Bool) : Prop := Row 1 encB w v bs
theorem Bools.later {w w' : World} {v : Value} {bs : List Bool} (h : Bools w v bs) {B : Nat} (hb : Below B w w') (hB : w.heap.size ≤ B) : Bools w' v bs := Row.later h hb hB
theorem Bools.get {w : World} {v : Value} {bs : List Bool} (h : Bools w v bs) : ∃ a cap, v = .slice a bs.length cap ∧ ∀ j, j < bs.length → ∃ b off, a = some ⟨b, off, none⟩ ∧ b < w.heap.size ∧ w.cell? ⟨b, off + j, none⟩ = some (.bool (el bs j)) := by
  by_cases hz : 0 < bs.length
  · obtain ⟨b, off, cap, hv, hb, hc⟩ := Row.plain h (fun x => by simp [encB]) hz
    refine ⟨_, cap, hv, fun j hj => ⟨b, off, rfl, hb, ?_⟩⟩
    have := hc j hj 0 _ rfl
    rwa [Nat.mul_one, Nat.add_zero] at this
  · obtain ⟨a, cap, hv⟩ := Row.sl h
    exact ⟨a, cap, hv, fun j hj => by omega⟩
theorem bools_block {w : World} {g cap : Nat} {bs : List Bool} {t : TypeId} (h : Blk w g (bs.map Value.bool).toArray t) : Bools w (.slice (some ⟨g, 0, none⟩) bs.length cap) bs := by
  refine .inr ⟨⟨g, 0, none⟩, cap, rfl, fun j hj i u hu => ?_⟩
  cases i with
  | zero =>
    rw [Addr.add_lit, Nat.zero_add, Nat.mul_one, Nat.add_zero]
    refine h.cell _ ?_
    simp [encB] at hu
    subst hu
    simp [hj, el]
  | succ i => simp [encB] at hu
theorem made_bools (n : Nat) : madeCells (Value.cells (.bool false)) (n * 1) = ((List.replicate n false).map Value.bool).toArray := by
  have hz : Value.cells (.bool false) = #[.bool false] := rfl
  apply Array.ext_getElem?
  intro t
  simp only [madeCells, hz, Array.getElem?_map, List.map_replicate]
  by_cases ht : t < n
  · simp [ht, Nat.mod_one]
  · simp [ht]
theorem set_bool {bs : List Bool} {q : Nat} : (bs.map Value.bool).toArray.setIfInBounds q (.bool true) = ((bs.set q true).map Value.bool).toArray := by simp [List.map_set]
theorem bool_cell {w : World} {g : Nat} {bs : List Bool} {t : TypeId} (h : Blk w g (bs.map Value.bool).toArray t) {j : Nat} (hj : j < bs.length) : w.cell? ⟨g, j, none⟩ = some (.bool (el bs j)) := by
  refine h.cell _ ?_
  simp [hj, el]
theorem infoBool : (Tryz.prog.info? 4).map (fun i => (i.zero, i.size, i.bytes)) = some (some (.bool false), 1, 1) := by kernel_rfl
end Go.Proofs.YtfekmlblldhieaaGreatDoor.Wt
namespace Go.Proofs.YtfekmlblldhieaaGreatDoor.Wt
open Go.ChangeShapes Go.WideShapes Go.ChangeAt Go.RowKit
open Go.Proofs.YtfekmlblldhieaaGreatDoor.Pl
set_option linter.unusedVariables false
/-- Numbers of the call's own, but for the last ones. -/
theorem own_cut {w : World} {base : Nat} {e : TypeId} {a : Option Addr} {n cap k : Nat} {ws : List Int} (h : w.ownsRow base e 1 (.slice a n cap) n (ws.flatMap encI1)) (hk : k < n) :
    ∃ g, a = some ⟨g, 0, none⟩ ∧ n ≤ cap ∧ w.ownsRow base e 1 (.slice (some ⟨g, 0, none⟩) k cap) k ((ws.take k).flatMap encI1) := by
  have hlen := h.1
  rw [flat_length encI1_len] at hlen
  rcases h.2 with ⟨hv, hn0⟩ | ⟨g, cap', cur, hv, hbg, hg, hnc, hcm, hcs, htake⟩
  · omega
  · simp only [Value.slice.injEq, true_and] at hv
    obtain ⟨rfl, rfl⟩ := hv
    refine ⟨g, rfl, hnc, ?_, .inr ⟨g, cap, cur, rfl, hbg, hg, by omega, hcm, hcs, ?_⟩⟩
    · rw [flat_length encI1_len, List.length_take]; omega
    · have h1 : cur.toList.take (k * 1) = (cur.toList.take (n * 1)).take (k * 1) := by rw [List.take_take]; congr 1; omega
      rw [h1, htake]
      have h2 : ∀ l : List Int, l.flatMap encI1 = l.map (Value.int .i64) := fun l => by
        induction l with
        | nil => rfl
        | cons x l ih => rw [List.flatMap_cons, ih]; rfl
      rw [h2, h2, List.map_take, Nat.mul_one]
theorem own_num {w : World} {base : Nat} {e : TypeId} {g n cap j : Nat} {ws : List Int} (h : w.ownsRow base e 1 (.slice (some ⟨g, 0, none⟩) n cap) n (ws.flatMap encI1)) (hj : j < ws.length) : w.cell? ⟨g, j, none⟩ = some (.int .i64 (el ws j)) := by
  have hc := h.cells (g := g) rfl j (.int .i64 (el ws j)) (by
    have := flat_at encI1_len ws j hj 0 (by omega)
    rw [Nat.mul_one, Nat.add_zero] at this
    rw [this]; rfl)
  rw [Addr.add_lit, Nat.zero_add] at hc
  exact hc
/-- How many bools of a block are false. -/
def falses (w : World) (b : Nat) : Nat := match w.heap[b]? with
  | some (.cells cs _ _) => cs.toList.countP fun v => match v with | .bool false => true | _ => false
  | _ => 0
theorem falses_blk {w : World} {b : Nat} {bs : List Bool} {t : TypeId} (h : Blk w b (bs.map Value.bool).toArray t) : falses w b = bs.count false := by
  unfold Blk at h
  unfold falses
  rw [h]
  simp only
  rw [List.countP_map]
  unfold List.count
  refine List.countP_congr fun x _ => ?_
  cases x <;> simp
def lenV : Value → Nat
  | .slice _ n _ => n
  | _ => 0
end Go.Proofs.YtfekmlblldhieaaGreatDoor.Wt
