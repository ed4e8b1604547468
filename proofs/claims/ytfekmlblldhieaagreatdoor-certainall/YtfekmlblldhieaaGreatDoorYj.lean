/- An arc's label set in place, in states of the call's own whose rows may be one. -/
import Derived.Test.YtfekmlblldhieaaGreatDoorFw
import Derived.Test.YtfekmlblldhieaaGreatDoorRn
import Derived.Test.YtfekmlblldhieaaGreatDoorJ17h
namespace Go.Proofs.YtfekmlblldhieaaGreatDoor.Wt
open Go.ChangeShapes Go.WideShapes Go.ChangeAt Go.RowKit
open Go.Proofs.YtfekmlblldhieaaGreatDoor.Pl
set_option linter.unusedVariables false
set_option linter.unusedSimpArgs false
/-- The first cell of one arc in a row set. -/
theorem set_inA {xs : List Ar} {k : Nat} (hk : k < xs.length) (y : Int) : (xs.flatMap encA).set (k * 4) (.int .i64 y) = (xs.set k (y, (el xs k).2)).flatMap encA := by
  apply List.ext_getElem?
  intro t
  have hl : (xs.flatMap encA).length = xs.length * 4 := flat_length encA_len xs
  by_cases ht : t < xs.length * 4
  · have he : t / 4 * 4 + t % 4 = t := by omega
    have h1 := flat_at encA_len xs (t / 4) (by omega) (t % 4) (by omega)
    have h2 := flat_at encA_len (xs.set k (y, (el xs k).2)) (t / 4) (by simp; omega) (t % 4) (by omega)
    rw [he] at h1 h2
    rw [List.getElem?_set, h1, h2, hl]
    by_cases hq : t / 4 = k
    · have hel : el (xs.set k (y, (el xs k).2)) (t / 4) = (y, (el xs k).2) := by rw [hq, el_get (by simpa using hk)]; simp
      rw [hel, hq]
      have h01 : t % 4 = 0 ∨ t % 4 = 1 ∨ t % 4 = 2 ∨ t % 4 = 3 := by omega
      rcases h01 with h | h | h | h
      · rw [if_pos (by omega), if_pos (by omega), h]; rfl
      · rw [if_neg (by omega), h]; rfl
      · rw [if_neg (by omega), h]; rfl
      · rw [if_neg (by omega), h]; rfl
    · have hel : el (xs.set k (y, (el xs k).2)) (t / 4) = el xs (t / 4) := by simp [el, List.getElem?_set_ne (Ne.symm hq)]
      rw [hel, if_neg (by omega)]
  · rw [List.getElem?_eq_none (by rw [List.length_set, hl]; omega), List.getElem?_eq_none (by rw [flat_length encA_len]; simp; omega)]
/-- One row, its block's cell set. -/
theorem rowMx {w : World} {base ga i n : Nat} {v : Value} {xs : List Ar} {x : Int} (ho : w.ownsRow base 33 4 v xs.length (xs.flatMap encA)) (hx : w.cell? ⟨ga, i * 4, none⟩ = some (.int .i64 x)) : ∃ ys, (w.setCell ⟨ga, i * 4, none⟩ (.int .i64 (mxI x))).ownsRow base 33 4 v ys.length (ys.flatMap encA) ∧ (ys = xs ∨ (i < xs.length ∧ ys = xs.set i (mxA (el xs i)))) ∧ (v.ownBlock = some ga → i < xs.length → ys = xs.set i (mxA (el xs i))) := by
  by_cases hb : v.ownBlock = some ga
  · by_cases hi : i < xs.length
    · rcases ho.2 with ⟨_, h0⟩ | ⟨g, cap, cur, rfl, hbg, hg, hnc, hcm, hcs, htake⟩
      · omega
      · simp only [Value.ownBlock, Option.some.injEq] at hb
        subst hb
        have hB : Blk w g cur 33 := hg
        have hxe : x = (el xs i).1 := by
          have h1 := flat_at encA_len xs i hi 0 (by omega)
          rw [← htake, List.getElem?_take, if_pos (by omega), Nat.add_zero] at h1
          have h2 := hB.cell (i * 4) (v := .int .i64 (el xs i).1) (by rw [← Array.getElem?_toList]; exact h1)
          rw [h2] at hx
          simp at hx
          exact hx.symm
        have e : xs.set i (mxA (el xs i)) = xs.set i (mxI x, (el xs i).2) := by rw [hxe]; rfl
        refine ⟨xs.set i (mxA (el xs i)), ⟨by rw [flat_length encA_len], .inr ⟨g, cap, cur.setIfInBounds (i * 4) (.int .i64 (mxI x)), by rw [List.length_set], hbg, hB.set _ _, by rw [List.length_set]; exact hnc, hcm, by simpa using hcs, ?_⟩⟩, .inr ⟨hi, rfl⟩, fun _ _ => rfl⟩
        rw [List.length_set, Array.toList_setIfInBounds, List.take_set, htake, e]
        exact set_inA hi (mxI x)
    · refine ⟨xs, ?_, .inl rfl, fun _ h => absurd h hi⟩
      rcases ho.2 with ⟨hv, h0⟩ | ⟨g, cap, cur, rfl, hbg, hg, hnc, hcm, hcs, htake⟩
      · rw [hv] at hb; simp [Value.ownBlock] at hb
      · simp only [Value.ownBlock, Option.some.injEq] at hb
        subst hb
        have hB : Blk w g cur 33 := hg
        refine ⟨ho.1, .inr ⟨g, cap, cur.setIfInBounds (i * 4) (.int .i64 (mxI x)), rfl, hbg, hB.set _ _, hnc, hcm, by simpa using hcs, ?_⟩⟩
        rw [Array.toList_setIfInBounds, List.take_set, htake, List.set_eq_of_length_le (by rw [flat_length encA_len]; omega)]
  · exact ⟨xs, World.ownsRow.kept ho (gSet w ga (i * 4) _) (.inr hb), .inl rfl, fun h => absurd h hb⟩
theorem OwnSts.mx {w : World} {base g cap : Nat} {l : List St} (h : OwnSts w base (.slice (some ⟨g, 0, none⟩) l.length cap) l) {q i : Nat} (hq : q < l.length) (hi : i < (el l q).2.length) :
    ∃ ga ca, w.cell? ⟨g, q * 2 + 1, none⟩ = some (.slice (some ⟨ga, 0, none⟩) (el l q).2.length ca) ∧ base ≤ ga ∧ w.cell? ⟨ga, i * 4, none⟩ = some (.int .i64 (el (el l q).2 i).1) ∧ w.frozen? ⟨ga, i * 4, none⟩ = false ∧
      ∃ l2, OwnSts (w.setCell ⟨ga, i * 4, none⟩ (.int .i64 (mxI (el (el l q).2 i).1))) base (.slice (some ⟨g, 0, none⟩) l.length cap) l2 ∧ l2.length = l.length ∧ (∀ j, j < l.length → (el l2 j).1 = (el l j).1 ∧ ((el l2 j).2 = (el l j).2 ∨ (i < (el l j).2.length ∧ (el l2 j).2 = (el l j).2.set i (mxA (el (el l j).2 i))))) ∧ (el l2 q).2 = (el l q).2.set i (mxA (el (el l q).2 i)) := by
  obtain ⟨vs, h1, h2, h3⟩ := h
  have hrow := (h3 q hq).2
  rcases hrow.2 with ⟨_, h0⟩ | ⟨ga, ca, cur, hv, hbg, hg, hnc, hcm, hcs, htake⟩
  · omega
  · have hB : Blk w ga cur 33 := hg
    have hcell : w.cell? ⟨ga, i * 4, none⟩ = some (.int .i64 (el (el l q).2 i).1) := by
      have k1 := flat_at encA_len (el l q).2 i hi 0 (by omega)
      rw [← htake, List.getElem?_take, if_pos (by omega), Nat.add_zero] at k1
      exact hB.cell (i * 4) (by rw [← Array.getElem?_toList]; exact k1)
    have hst : w.cell? ⟨g, q * 2 + 1, none⟩ = some (el vs q).2 := by
      have k1 := flat_at encS_len vs q (by omega) 1 (by omega)
      have k2 := h1.cells (g := g) rfl (q * 2 + 1) (el vs q).2 (by rw [k1]; rfl)
      rw [Addr.add_lit, Nat.zero_add] at k2
      exact k2
    rw [hv] at hst
    refine ⟨ga, ca, hst, hbg, hcell, hB.fz _, ?_⟩
    have hall : ∀ j, ∃ ys : List Ar, j < l.length → (w.setCell ⟨ga, i * 4, none⟩ (.int .i64 (mxI (el (el l q).2 i).1))).ownsRow base 33 4 (el vs j).2 ys.length (ys.flatMap encA) ∧ (ys = (el l j).2 ∨ (i < (el l j).2.length ∧ ys = (el l j).2.set i (mxA (el (el l j).2 i)))) ∧ ((el vs j).2.ownBlock = some ga → i < (el l j).2.length → ys = (el l j).2.set i (mxA (el (el l j).2 i))) := fun j => by
      by_cases hj : j < l.length
      · obtain ⟨ys, a1, a2, a3⟩ := rowMx (n := 0) (h3 j hj).2 hcell
        exact ⟨ys, fun _ => ⟨a1, a2, a3⟩⟩
      · exact ⟨[], fun h => absurd h hj⟩
    obtain ⟨Y, hY⟩ := Classical.axiomOfChoice hall
    have hel : ∀ j, j < l.length → el ((List.range l.length).map fun j => ((el l j).1, Y j)) j = ((el l j).1, Y j) := fun j hj => el_range_map _ hj
    refine ⟨(List.range l.length).map fun j => ((el l j).1, Y j), ⟨vs, ?_, by simp [h2], fun j hj => ?_⟩, by simp, fun j hj => ?_, ?_⟩
    · have := World.ownsRow.kept h1 (gSet w ga (i * 4) (.int .i64 (mxI (el (el l q).2 i).1))) (.inr (fun e => (own_ne h1 hB (by decide)) e.symm))
      exact this
    · simp only [List.length_map, List.length_range] at hj
      rw [hel j hj]
      exact ⟨(h3 j hj).1, (hY j hj).1⟩
    · rw [hel j hj]
      exact ⟨rfl, (hY j hj).2.1⟩
    · rw [hel q hq]
      exact (hY q hq).2.2 (by rw [hv]; rfl) hi
end Go.Proofs.YtfekmlblldhieaaGreatDoor.Wt
