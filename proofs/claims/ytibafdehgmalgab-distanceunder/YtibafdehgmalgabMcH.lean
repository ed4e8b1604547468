/- A number brought into bounds; one arc more behind arcs of the call's own. -/
import Derived.Test.YtibafdehgmalgabMcC
import Derived.Test.YtibafdehgmalgabPlainW
namespace Go.Proofs.Ytibafdehgmalgab.Wt
open Go.ChangeShapes Go.WideShapes Go.ChangeAt Go.RowKit
open Go.Proofs.Ytibafdehgmalgab.Pl
set_option linter.unusedVariables false
theorem picked_R (n many : Int) (w : World) (hn : (Lit.int .i64 n).wf = true) (hm : 0 < many) (hm2 : many ≤ 9223372036854775807) (r : Int) (hr : pkR n many = r) :
    Calls Try.prog 9 #[.int .i64 n, .int .i64 many] w fun e w' => e = .returned (.int .i64 r) ∧ w = w' := by
  subst hr
  obtain ⟨b1, b2⟩ := bounds_i64 hn
  clear hn
  by_cases h : n < 0
  · have HP : Hid (pkR n many = (-(n + 1)) % many) := by show _ = _; simp [pkR, h]
    go_enter Try.func9, Try.ntmps9
    go_wp2
    go_ret
    exact ⟨ret_intK (by rw [HP.out, ← Int.neg_tmod, Int.tmod_eq_emod_of_nonneg (by omega)]), rfl⟩
  · have HP : Hid (pkR n many = n % many) := by show _ = _; simp [pkR, h]
    go_enter Try.func9, Try.ntmps9
    go_wp2
    go_ret
    exact ⟨ret_intK (by rw [HP.out]), rfl⟩
/-- append(arcs, a): arcs the call's own, the arc laid in a new block. -/
theorem run_push_arc {W w1 : World} (p : Ar) (l : List Ar) (vo : Value) (base : Nat)
    (hW : W.heap = w1.heap.push (.cells #[.int .i64 p.1, .int .i64 p.2.1, .int .i64 p.2.2.1, .int .i64 p.2.2.2] 47)) (hos : W.os = w1.os) (htp : W.tape = w1.tape) (hou : W.output = w1.output)
    (hown : w1.ownsRow base 47 4 vo l.length (l.flatMap encA)) (hl : (l.length + 1) * 32 ≤ 140737488355328) (hbase : base ≤ w1.heap.size) :
    ∃ v3 w3, (Builtin.append_ #[39, 39] 39 #[vo, .slice (some ⟨w1.heap.size, 0, none⟩) 1 1]).run Try.prog W = .ok v3 w3 ∧ w3.ownsRow base 47 4 v3 (l ++ [p]).length ((l ++ [p]).flatMap encA) ∧ w1.grownBy w3 vo.ownBlock := by
  obtain ⟨i1, hi1, hy0, hy1, hy2⟩ := info_parts infoArc
  have e1 : ∀ k, k < w1.heap.size → W.heap[k]? = w1.heap[k]? := fun k hk => by rw [hW, Array.getElem?_push_lt hk, Array.getElem?_eq_getElem hk]
  have e0 : W.heap[w1.heap.size]? = some (.cells #[.int .i64 p.1, .int .i64 p.2.1, .int .i64 p.2.2.1, .int .i64 p.2.2.2] 47 (0, 0)) := by rw [hW]; simp
  have es : W.heap.size = w1.heap.size + 1 := by rw [hW]; simp
  have hg : w1.grownBy W none := ⟨hos, htp, hou, by omega, fun k hk _ => e1 k hk⟩
  have hvo := hown.kept hg (by rcases vo.ownBlock with _ | _ <;> simp)
  obtain ⟨v3, w3, hr, h1, h2, _⟩ := run_append_own (P := Try.prog) W base 39 39 47 i1 _ 4 32 Try.underlying39 hi1 hy0 hy1 hy2 rfl (by omega) vo l.length (l.flatMap encA) hvo ⟨w1.heap.size, 0, none⟩ 1 1 (encA p) rfl (World.news_of_block (cs := #[.int .i64 p.1, .int .i64 p.2.1, .int .i64 p.2.2.1, .int .i64 p.2.2.2]) e0) (encA_one p) (by unfold maxLen; omega) hl (by omega)
  refine ⟨v3, w3, hr, by simpa [encA] using h1, ⟨h2.os.trans hos, h2.tape.trans htp, h2.output.trans hou, by have := h2.size; omega, fun k hk hne => (h2.block k (by omega) hne).trans (e1 k hk)⟩⟩
end Go.Proofs.Ytibafdehgmalgab.Wt
