/- Lists of numbers in memory. -/
import Derived.Test.YtkeeiihaijhdoaaMc
import Derived.Test.YtkeeiihaijhdoaaBlk
import Derived.Laws.MakeOwn
namespace Go.Proofs.Ytkeeiihaijhdoaa.Wt
open Go.ChangeShapes Go.WideShapes Go.ChangeAt Go.RowKit
open Go.Proofs.Ytkeeiihaijhdoaa.Pl
set_option linter.unusedVariables false
set_option linter.unusedSimpArgs false
def encI1 (x : Int) : List Value := [.int .i64 x]
theorem encI1_len (x : Int) : (encI1 x).length = 1 := rfl
theorem encI1_one (x : Int) : ∀ u ∈ encI1 x, u.oneCell' = true := by
  intro u hu
  simp [encI1] at hu
  subst hu; rfl
def Nums (w : World) (v : Value) (ks : List Int) : Prop := Row 1 encI1 w v ks
theorem Nums.later {w w' : World} {v : Value} {ks : List Int} (h : Nums w v ks) {B : Nat} (hb : Below B w w') (hB : w.heap.size ≤ B) : Nums w' v ks := Row.later h hb hB
theorem Nums.get {w : World} {v : Value} {bs : List Int} (h : Nums w v bs) : ∃ a cap, v = .slice a bs.length cap ∧ ∀ j, j < bs.length → ∃ b off, a = some ⟨b, off, none⟩ ∧ b < w.heap.size ∧ w.cell? ⟨b, off + j, none⟩ = some (.int .i64 (el bs j)) := by
  by_cases hz : 0 < bs.length
  · obtain ⟨b, off, cap, hv, hb, hc⟩ := Row.plain h (fun x => by simp [encI1]) hz
    refine ⟨_, cap, hv, fun j hj => ⟨b, off, rfl, hb, ?_⟩⟩
    have := hc j hj 0 _ rfl
    rwa [Nat.mul_one, Nat.add_zero] at this
  · obtain ⟨a, cap, hv⟩ := Row.sl h
    exact ⟨a, cap, hv, fun j hj => by omega⟩
theorem infoIntU : (Try.prog.info? 3).map (fun i => (i.zero, i.size, i.bytes)) = some (some (.int .i64 0), 1, 8) := by kernel_rfl
theorem made_nums (n : Nat) : madeCells (Value.cells (.int .i64 0)) (n * 1) = ((List.replicate n (0 : Int)).map (Value.int .i64)).toArray := by
  have hz : Value.cells (.int .i64 0) = #[.int .i64 0] := rfl
  apply Array.ext_getElem?
  intro t
  simp only [madeCells, hz, Array.getElem?_map, List.map_replicate]
  by_cases ht : t < n
  · simp [ht, Nat.mod_one]
  · simp [ht]
theorem run_nums (n : Nat) (hn : n ≤ 1000) (W : World) : (Instr.makeSlice 35 (.int .i64 (n : Int)) (.int .i64 (n : Int))).run Try.prog W = .ok (.slice (some ⟨W.heap.size, 0, none⟩) n n) (W.alloc (.cells ((List.replicate n (0 : Int)).map (Value.int .i64)).toArray 3)) := by
  obtain ⟨i1, hi1, hy0, hy1, hy2⟩ := info_parts infoIntU
  have h := run_make (P := Try.prog) W 35 3 i1 _ Try.underlying35 hi1 hy0 .i64 .i64 n n (by omega) (by omega) (by rw [hy2]; omega) (by omega)
  rw [hy1, Int.toNat_natCast, made_nums] at h
  exact h
theorem nums_block {w : World} {g cap : Nat} {ws : List Int} {t : TypeId} (h : Blk w g (ws.map (Value.int .i64)).toArray t) : Nums w (.slice (some ⟨g, 0, none⟩) ws.length cap) ws := by
  refine .inr ⟨⟨g, 0, none⟩, cap, rfl, fun j hj i u hu => ?_⟩
  cases i with
  | zero =>
    rw [Addr.add_lit, Nat.zero_add, Nat.mul_one, Nat.add_zero]
    refine h.cell _ ?_
    simp [encI1] at hu
    subst hu
    simp [hj, el]
  | succ i => simp [encI1] at hu
theorem num_cell {w : World} {g : Nat} {ws : List Int} {t : TypeId} (h : Blk w g (ws.map (Value.int .i64)).toArray t) {j : Nat} (hj : j < ws.length) : w.cell? ⟨g, j, none⟩ = some (.int .i64 (el ws j)) := by
  refine h.cell _ ?_
  simp [hj, el]
theorem set_num {ws : List Int} {q : Nat} {x : Int} : (ws.map (Value.int .i64)).toArray.setIfInBounds q (.int .i64 x) = ((ws.set q x).map (Value.int .i64)).toArray := by simp [List.map_set]
theorem el_setN {l : List Int} {q j : Nat} (hq : q < l.length) (x : Int) : el (l.set q x) j = if j = q then x else el l j := by
  by_cases h : j = q
  · subst h; rw [if_pos rfl, el_get (by simpa using hq)]; simp
  · rw [if_neg h]; simp [el, List.getElem?_set_ne (Ne.symm h)]
end Go.Proofs.Ytkeeiihaijhdoaa.Wt
