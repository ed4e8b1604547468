/- Changes of labels in memory. -/
import Derived.Test.YtfffelgmgghldaaRn
import Derived.Test.YtfffelgmgghldaaPlainCh
namespace Go.Proofs.Ytfffelgmgghldaa.Wt
open Go.ChangeShapes Go.WideShapes Go.ChangeAt Go.RowKit
open Go.Proofs.Ytfffelgmgghldaa.Pl
set_option linter.unusedVariables false
set_option linter.unusedSimpArgs false
def encC (c : Ch) : List Value := [.int .i64 c.1, .int .i64 c.2]
theorem encC_len (c : Ch) : (encC c).length = 2 := rfl
theorem encC_one (c : Ch) : ∀ u ∈ encC c, u.oneCell' = true := by
  intro u hu
  simp [encC] at hu
  obtain rfl | rfl := hu <;> rfl
/-- The slice value v holds the changes l. -/
def Chs (w : World) (v : Value) (l : List Ch) : Prop := Row 2 encC w v l
theorem Chs.later {w w' : World} {v : Value} {l : List Ch} (h : Chs w v l) {B : Nat} (hb : Below B w w') (hB : w.heap.size ≤ B) : Chs w' v l := Row.later h hb hB
theorem Chs.sl {w : World} {v : Value} {l : List Ch} (h : Chs w v l) : ∃ a cap, v = .slice a l.length cap := Row.sl h
theorem Chs.get {w : World} {v : Value} {l : List Ch} (h : Chs w v l) : ∃ a cap, v = .slice a l.length cap ∧ ∀ j, j < l.length → ∃ b off, a = some ⟨b, off, none⟩ ∧ b < w.heap.size ∧ w.cell? ⟨b, off + j * 2, none⟩ = some (.int .i64 (el l j).1) ∧ w.cell? ⟨b, off + j * 2 + 1, none⟩ = some (.int .i64 (el l j).2) := by
  by_cases hz : 0 < l.length
  · obtain ⟨b, off, cap, hv, hb, hc⟩ := Row.plain h (fun x => by rw [encC_len]; omega) hz
    exact ⟨_, cap, hv, fun j hj => ⟨b, off, rfl, hb, hc j hj 0 _ rfl, hc j hj 1 _ rfl⟩⟩
  · obtain ⟨a, cap, hv⟩ := h.sl
    exact ⟨a, cap, hv, fun j hj => by omega⟩
/-- A list of changes that came in. -/
def okC (l : List Ch) : Prop := l.length * 16 ≤ 140737488351232
end Go.Proofs.Ytfffelgmgghldaa.Wt
