/- Rows of numbers of the call's own. -/
import Derived.Test.YtfffelgmgghldabSg
import Derived.Test.YtfffelgmgghldabNn
import Derived.Test.YtfffelgmgghldabBm
namespace Go.Proofs.Ytfffelgmgghldab.Wt
open Go.ChangeShapes Go.WideShapes Go.ChangeAt Go.RowKit
open Go.Proofs.Ytfffelgmgghldab.Pl
set_option linter.unusedVariables false
/-- Numbers of the call's own, but for the last ones. -/
theorem own_cut {w : World} {base : Nat} {e : TypeId} {a : Option Addr} {n cap k : Nat} {ws : List Int} (h : w.ownsRow base e 1 (.slice a n cap) n (ws.flatMap encI1)) (hk : k < n) :
    ∃ g, a = some ⟨g, 0, none⟩ ∧ n ≤ cap ∧ w.ownsRow base e 1 (.slice (some ⟨g, 0, none⟩) k cap) k ((ws.take k).flatMap encI1) := by
  have hlen := h.1
  rw [flat_length encI1_len] at hlen
  rcases h.2 with ⟨hv, hn0⟩ | ⟨g, cap', cur, hv, hbg, hg, hnc, hcm, hcs, htake⟩
  · omega
  · simp only [Value.slice.injEq, true_and] at hv
    obtain ⟨rfl, rfl⟩ := hv
    refine ⟨g, rfl, hnc, ?_, .inr ⟨g, cap, cur, rfl, hbg, hg, by omega, hcm, hcs, ?_⟩⟩
    · rw [flat_length encI1_len, List.length_take]; omega
    · have h1 : cur.toList.take (k * 1) = (cur.toList.take (n * 1)).take (k * 1) := by rw [List.take_take]; congr 1; omega
      rw [h1, htake]
      have h2 : ∀ l : List Int, l.flatMap encI1 = l.map (Value.int .i64) := fun l => by
        induction l with
        | nil => rfl
        | cons x l ih => rw [List.flatMap_cons, ih]; rfl
      rw [h2, h2, List.map_take, Nat.mul_one]
theorem own_num {w : World} {base : Nat} {e : TypeId} {g n cap j : Nat} {ws : List Int} (h : w.ownsRow base e 1 (.slice (some ⟨g, 0, none⟩) n cap) n (ws.flatMap encI1)) (hj : j < ws.length) : w.cell? ⟨g, j, none⟩ = some (.int .i64 (el ws j)) := by
  have hc := h.cells (g := g) rfl j (.int .i64 (el ws j)) (by
    have := flat_at encI1_len ws j hj 0 (by omega)
    rw [Nat.mul_one, Nat.add_zero] at this
    rw [this]; rfl)
  rw [Addr.add_lit, Nat.zero_add] at hc
  exact hc
/-- How many bools of a block are false. -/
def falses (w : World) (b : Nat) : Nat := match w.heap[b]? with
  | some (.cells cs _ _) => cs.toList.countP fun v => match v with | .bool false => true | _ => false
  | _ => 0
theorem falses_blk {w : World} {b : Nat} {bs : List Bool} {t : TypeId} (h : Blk w b (bs.map Value.bool).toArray t) : falses w b = bs.count false := by
  unfold Blk at h
  unfold falses
  rw [h]
  simp only
  rw [List.countP_map]
  unfold List.count
  refine List.countP_congr fun x _ => ?_
  cases x <;> simp
def lenV : Value → Nat
  | .slice _ n _ => n
  | _ => 0
end Go.Proofs.Ytfffelgmgghldab.Wt
