/- append(out, State{..}): no block but the row's own is changed. -/
import Derived.Test.YtkeeiihaijhdoaaMcC
namespace Go.Proofs.Ytkeeiihaijhdoaa.Wt
open Go.ChangeShapes Go.WideShapes Go.ChangeAt Go.RowKit
open Go.Proofs.Ytkeeiihaijhdoaa.Pl
set_option linter.unusedVariables false
set_option linter.unusedSimpArgs false
/-- As run_push; and no block but the row's own is changed. -/
theorem run_pushG {W w1 : World} (s : St) (l : List St) (va vo : Value) (base : Nat)
    (hW : W.heap = w1.heap.push (.cells #[.int .i64 s.1, va] 58)) (hos : W.os = w1.os) (htp : W.tape = w1.tape) (hou : W.output = w1.output)
    (hown : OwnSts w1 base vo l) (hva : w1.ownsRow base 75 4 va s.2.length (s.2.flatMap encA)) (hl : (l.length + 1) * 32 ≤ 140737488355328) (hbase : base ≤ w1.heap.size) :
    ∃ v3 w3, (Builtin.append_ #[22, 22] 22 #[vo, .slice (some ⟨w1.heap.size, 0, none⟩) 1 1]).run Try.prog W = .ok v3 w3 ∧ OwnSts w3 base v3 (l ++ [s]) ∧ Below base w1 w3 ∧ W.grownBy w3 vo.ownBlock := by
  obtain ⟨v3, w3, hr, h1, h2⟩ := run_push s l va vo base hW hos htp hou hown hva hl hbase
  refine ⟨v3, w3, hr, h1, h2, ?_⟩
  obtain ⟨i1, hi1, hy0, hy1, hy2⟩ := info_parts infoState
  obtain ⟨vs, q1, q2, q3⟩ := hown
  have e1 : ∀ k, k < w1.heap.size → W.heap[k]? = w1.heap[k]? := fun k hk => by rw [hW, Array.getElem?_push_lt hk, Array.getElem?_eq_getElem hk]
  have e0 : W.heap[w1.heap.size]? = some (.cells #[.int .i64 s.1, va] 58 (0, 0)) := by rw [hW]; simp
  have es : W.heap.size = w1.heap.size + 1 := by rw [hW]; simp
  have hg : w1.grownBy W none := ⟨hos, htp, hou, by omega, fun k hk _ => e1 k hk⟩
  have hvo := q1.kept hg (by rcases vo.ownBlock with _ | _ <;> simp)
  obtain ⟨v4, w4, hr4, _, hg4, _⟩ := run_append_own (P := Try.prog) W base 22 22 58 i1 _ 2 32 Try.underlying22 hi1 hy0 hy1 hy2 rfl (by omega) vo vs.length (vs.flatMap encS) hvo ⟨w1.heap.size, 0, none⟩ 1 1 [.int .i64 s.1, va] rfl (World.news_of_block (cs := #[.int .i64 s.1, va]) e0) (by
    intro u hu
    simp at hu
    rcases hu with rfl | rfl
    · rfl
    · exact own_one hva) (by rw [q2]; unfold maxLen; omega) (by rw [q2]; exact hl) (by omega)
  rw [hr] at hr4
  simp only [Result.ok.injEq] at hr4
  rw [hr4.2]
  exact hg4
end Go.Proofs.Ytkeeiihaijhdoaa.Wt
