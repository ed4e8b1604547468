/- Hops in memory; the reference: whether two arcs meet. -/
import Derived.Test.YthcfkiinjcbajabRn
import Derived.Test.YthcfkiinjcbajabJ16j
import Derived.Test.YthcfkiinjcbajabJ16b
namespace Go.Proofs.Ythcfkiinjcbajab.Wt
open Go.ChangeShapes Go.WideShapes Go.ChangeAt Go.RowKit
open Go.Proofs.Ythcfkiinjcbajab.Pl
set_option linter.unusedVariables false
set_option linter.unusedSimpArgs false
/-- A hop's six cells. -/
def encH (h : Hp) : List Value := [.int .i64 h.1, .int .i64 h.2.1, .int .i64 h.2.2.1, .int .i64 h.2.2.2.1, .int .i64 h.2.2.2.2.1, .int .i64 h.2.2.2.2.2]
theorem encH_len (h : Hp) : (encH h).length = 6 := rfl
theorem encH_one (h : Hp) : ∀ u ∈ encH h, u.oneCell' = true := by
  intro u hu
  simp [encH] at hu
  rcases hu with rfl | rfl | rfl | rfl | rfl | rfl <;> rfl
/-- A list of hops. -/
def Hps (w : World) (v : Value) (hs : List Hp) : Prop := Row 6 encH w v hs
theorem Hps.nil (w : World) : Hps w (.slice none 0 0) [] := .inl ⟨rfl, rfl⟩
theorem Hps.later {w w' : World} {v : Value} {hs : List Hp} (h : Hps w v hs) {B : Nat} (hb : Below B w w') (hB : w.heap.size ≤ B) : Hps w' v hs := Row.later h hb hB
theorem Hps.get {w : World} {v : Value} {hs : List Hp} (h : Hps w v hs) : ∃ a cap, v = .slice a hs.length cap ∧ ∀ j, j < hs.length → ∃ b off, a = some ⟨b, off, none⟩ ∧ b < w.heap.size ∧ w.cell? ⟨b, off + j * 6, none⟩ = some (.int .i64 (el hs j).1) ∧ w.cell? ⟨b, off + j * 6 + 1, none⟩ = some (.int .i64 (el hs j).2.1) ∧ w.cell? ⟨b, off + j * 6 + 2, none⟩ = some (.int .i64 (el hs j).2.2.1) ∧ w.cell? ⟨b, off + j * 6 + 3, none⟩ = some (.int .i64 (el hs j).2.2.2.1) ∧ w.cell? ⟨b, off + j * 6 + 4, none⟩ = some (.int .i64 (el hs j).2.2.2.2.1) ∧ w.cell? ⟨b, off + j * 6 + 5, none⟩ = some (.int .i64 (el hs j).2.2.2.2.2) := by
  by_cases hz : 0 < hs.length
  · obtain ⟨b, off, cap, hv, hb, hc⟩ := Row.plain h (fun x => by rw [encH_len]; omega) hz
    exact ⟨_, cap, hv, fun j hj => ⟨b, off, rfl, hb, hc j hj 0 _ rfl, hc j hj 1 _ rfl, hc j hj 2 _ rfl, hc j hj 3 _ rfl, hc j hj 4 _ rfl, hc j hj 5 _ rfl⟩⟩
  · obtain ⟨a, cap, hv⟩ := Row.sl h
    exact ⟨a, cap, hv, fun j hj => absurd hj (by omega)⟩
theorem infoHop : (Try.prog.info? 84).map (fun i => (i.zero, i.size, i.bytes)) = some (some (.agg #[.int .i64 0, .int .i64 0, .int .i64 0, .int .i64 0, .int .i64 0, .int .i64 0]), 6, 48) := by kernel_rfl
/-- A number, hops and an error are answered. -/
def ExpRes (f : Int) (hs : List Hp) (ec : Int) (w : World) (e : Ending) (w' : World) : Prop := ∃ vr, e = .returned (.tuple #[.int .i64 f, vr, .int .i64 ec]) ∧ Hps w' vr hs ∧ Below w.heap.size w w'
/-- Hops of the call's own. -/
def OwnH (w : World) (base : Nat) (v : Value) (hs : List Hp) : Prop := w.ownsRow base 84 6 v hs.length (hs.flatMap encH)
theorem OwnH.nil (w : World) (base : Nat) : OwnH w base (.slice none 0 0) [] := World.ownsRow_nil _ _ _ _
theorem OwnH.later {w w' : World} {base : Nat} {v : Value} {hs : List Hp} (h : OwnH w base v hs) (hb : Below w.heap.size w w') : OwnH w' base v hs := ownBelow h hb
theorem OwnH.sl {w : World} {base : Nat} {v : Value} {hs : List Hp} (h : OwnH w base v hs) : ∃ a cap, v = .slice a hs.length cap := own_sl h
theorem OwnH.row {w : World} {base : Nat} {v : Value} {hs : List Hp} (h : OwnH w base v hs) : Hps w v hs := Row.ofOwn encH_len h rfl
/-- The same, the hops in memory of the call's own. -/
def ExpOwn (f : Int) (hs : List Hp) (ec : Int) (w : World) (e : Ending) (w' : World) : Prop := ∃ vr, e = .returned (.tuple #[.int .i64 f, vr, .int .i64 ec]) ∧ OwnH w' w.heap.size vr hs ∧ Below w.heap.size w w'
theorem ExpOwn.res {f : Int} {hs : List Hp} {ec : Int} {w : World} {e : Ending} {w' : World} (h : ExpOwn f hs ec w e w') : ExpRes f hs ec w e w' := by
  obtain ⟨vr, h1, h2, h3⟩ := h
  exact ⟨vr, h1, h2.row, h3⟩
/-- append(out, hop), the hop in a block of its own. -/
theorem OwnH.push {W : World} {base : Nat} {v : Value} {hs : List Hp} (h : OwnH W base v hs) (hb : base ≤ W.heap.size) (k : Hp) (hl : hs.length ≤ 1000000) :
    ∃ v' w', (Builtin.append_ #[60, 60] 60 #[v, .slice (some ⟨W.heap.size, 0, none⟩) 1 1]).run Try.prog (W.alloc (.cells (encH k).toArray 84)) = .ok v' w' ∧ OwnH w' base v' (hs ++ [k]) ∧ Below base W w' := by
  obtain ⟨i1, hi1, hy0, hy1, hy2⟩ := info_parts infoHop
  obtain ⟨v4, w4, r4, ho4, hg4, _⟩ := run_append_spot (P := Try.prog) (w := W.alloc (.cells (encH k).toArray 84)) encH_len (by decide) encH_one 60 60 base 84 i1 _ 48 Try.underlying60 hi1 hy0 hy1 hy2 rfl _ hs.length (hs.flatMap encH) (World.ownsRow.alloc h _) _ [k] (oneRow (enc := encH) W k rfl 84) (by simp; unfold maxLen; omega) (by simp; omega) (by simp; omega)
  have ho : OwnH w4 base v4 (hs ++ [k]) := by unfold OwnH; rw [List.length_append, List.flatMap_append]; exact ho4
  exact ⟨v4, w4, r4, ho, ((Below.refl _ _).alloc hb _).grown hg4 (by simp; omega) (own_geK h)⟩
end Go.Proofs.Ythcfkiinjcbajab.Wt
