/- Lists of bytes in memory. -/
import Derived.Test.YtbbjpdadickilaaDoorNn
import Derived.Test.YtbbjpdadickilaaDoorPlainCs
namespace Go.Proofs.YtbbjpdadickilaaDoor.Wt
open Go.ChangeShapes Go.WideShapes Go.ChangeAt Go.RowKit
open Go.Proofs.YtbbjpdadickilaaDoor.Pl
set_option linter.unusedVariables false
set_option linter.unusedSimpArgs false
def encU1 (x : Int) : List Value := [.int .u8 x]
theorem encU1_len (x : Int) : (encU1 x).length = 1 := rfl
theorem encU1_one (x : Int) : ∀ u ∈ encU1 x, u.oneCell' = true := by
  intro u hu
  simp [encU1] at hu
  subst hu; rfl
def Bys (w : World) (v : Value) (ks : List Int) : Prop := Row 1 encU1 w v ks
theorem Bys.later {w w' : World} {v : Value} {ks : List Int} (h : Bys w v ks) {B : Nat} (hb : Below B w w') (hB : w.heap.size ≤ B) : Bys w' v ks := Row.later h hb hB
theorem Bys.get {w : World} {v : Value} {bs : List Int} (h : Bys w v bs) : ∃ a cap, v = .slice a bs.length cap ∧ ∀ j, j < bs.length → ∃ b off, a = some ⟨b, off, none⟩ ∧ b < w.heap.size ∧ w.cell? ⟨b, off + j, none⟩ = some (.int .u8 (el bs j)) := by
  by_cases hz : 0 < bs.length
  · obtain ⟨b, off, cap, hv, hb, hc⟩ := Row.plain h (fun x => by simp [encU1]) hz
    refine ⟨_, cap, hv, fun j hj => ⟨b, off, rfl, hb, ?_⟩⟩
    have := hc j hj 0 _ rfl
    rwa [Nat.mul_one, Nat.add_zero] at this
  · obtain ⟨a, cap, hv⟩ := Row.sl h
    exact ⟨a, cap, hv, fun j hj => by omega⟩
theorem infoU8 : (Tryd.prog.info? 5).map (fun i => (i.zero, i.size, i.bytes)) = some (some (.int .u8 0), 1, 1) := by kernel_rfl
theorem made_bys (n : Nat) : madeCells (Value.cells (.int .u8 0)) (n * 1) = ((List.replicate n (0 : Int)).map (Value.int .u8)).toArray := by
  have hz : Value.cells (.int .u8 0) = #[.int .u8 0] := rfl
  apply Array.ext_getElem?
  intro t
  simp only [madeCells, hz, Array.getElem?_map, List.map_replicate]
  by_cases ht : t < n
  · simp [ht, Nat.mod_one]
  · simp [ht]
theorem run_bys (n : Nat) (hn : n ≤ 1000) (W : World) : (Instr.makeSlice 25 (.int .i64 (n : Int)) (.int .i64 (n : Int))).run Tryd.prog W = .ok (.slice (some ⟨W.heap.size, 0, none⟩) n n) (W.alloc (.cells ((List.replicate n (0 : Int)).map (Value.int .u8)).toArray 5)) := by
  obtain ⟨i1, hi1, hy0, hy1, hy2⟩ := info_parts infoU8
  have h := run_make (P := Tryd.prog) W 25 5 i1 _ Tryd.underlying25 hi1 hy0 .i64 .i64 n n (by omega) (by omega) (by rw [hy2]; omega) (by omega)
  rw [hy1, Int.toNat_natCast, made_bys] at h
  exact h
/-- As run_nums, for longer lists. -/
theorem run_numsL (n : Nat) (hn : n ≤ 100000) (W : World) : (Instr.makeSlice 86 (.int .i64 (n : Int)) (.int .i64 (n : Int))).run Tryd.prog W = .ok (.slice (some ⟨W.heap.size, 0, none⟩) n n) (W.alloc (.cells ((List.replicate n (0 : Int)).map (Value.int .i64)).toArray 3)) := by
  obtain ⟨i1, hi1, hy0, hy1, hy2⟩ := info_parts infoIntU
  have h := run_make (P := Tryd.prog) W 86 3 i1 _ Tryd.underlying86 hi1 hy0 .i64 .i64 n n (by omega) (by omega) (by rw [hy2]; omega) (by omega)
  rw [hy1, Int.toNat_natCast, made_nums] at h
  exact h
theorem bys_block {w : World} {g cap : Nat} {ws : List Int} {t : TypeId} (h : Blk w g (ws.map (Value.int .u8)).toArray t) : Bys w (.slice (some ⟨g, 0, none⟩) ws.length cap) ws := by
  refine .inr ⟨⟨g, 0, none⟩, cap, rfl, fun j hj i u hu => ?_⟩
  cases i with
  | zero =>
    rw [Addr.add_lit, Nat.zero_add, Nat.mul_one, Nat.add_zero]
    refine h.cell _ ?_
    simp [encU1] at hu
    subst hu
    simp [hj, el]
  | succ i => simp [encU1] at hu
theorem by_cell {w : World} {g : Nat} {ws : List Int} {t : TypeId} (h : Blk w g (ws.map (Value.int .u8)).toArray t) {j : Nat} (hj : j < ws.length) : w.cell? ⟨g, j, none⟩ = some (.int .u8 (el ws j)) := by
  refine h.cell _ ?_
  simp [hj, el]
theorem set_by {ws : List Int} {q : Nat} {x : Int} : (ws.map (Value.int .u8)).toArray.setIfInBounds q (.int .u8 x) = ((ws.set q x).map (Value.int .u8)).toArray := by simp [List.map_set]
end Go.Proofs.YtbbjpdadickilaaDoor.Wt
