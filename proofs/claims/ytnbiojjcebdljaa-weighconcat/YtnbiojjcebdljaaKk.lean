/- Words cut: what stands ahead of a place, and what stands from it on. -/
import Derived.Test.YtnbiojjcebdljaaNn
import Derived.Test.YtnbiojjcebdljaaMcC
namespace Go.Proofs.Ytnbiojjcebdljaa.Wt
open Go.ChangeShapes Go.WideShapes Go.ChangeAt Go.RowKit
open Go.Proofs.Ytnbiojjcebdljaa.Pl
set_option linter.unusedVariables false
set_option linter.unusedSimpArgs false
theorem own_cap {w : World} {base : Nat} {e : TypeId} {s : Nat} {a : Option Addr} {n n' cap : Nat} {xs : List Value} (h : w.ownsRow base e s (.slice a n cap) n' xs) : n ≤ cap := by
  rcases h.2 with ⟨hv, _⟩ | ⟨g, cap', cur, hv, _, _, hnc, _⟩
  · injection hv with _ h2 h3; omega
  · injection hv with _ h2 h3; omega
theorem run_exec_slice {P : Program} {o : Oper} {a : Act} {w : World} {v : Value} {t : TypeId} {x : Operand} {lo hi mx : Option Operand} (ho : o.op = .slice t x lo hi mx) (hr : (Instr.sliceAt t (a.eval x) (lo.map a.eval) (hi.map a.eval) (mx.map a.eval)).run P w = .ok v w) : (execOp a.eval o).run P w = .ok (.value v) w := by
  unfold execOp
  simp [ho, hr, Result.andThen]
theorem elemInt : Try.prog.underlying 25 = some (.slice (Try.prog.elem 25)) := by kernel_rfl
theorem sizeInt (w : World) : (sizeOf (Try.prog.elem 25)).run Try.prog w = .ok 1 w := by kernel_rfl
/-- x[:i:i]. -/
theorem cut_head {w : World} {a : Option Addr} {n cap : Nat} {x : List Int} (h : Nums w (.slice a n cap) x) (hc : n ≤ cap) {i : Nat} (hi : i ≤ x.length) :
    ∃ v, (∀ W : World, (Instr.sliceAt 25 (.slice a n cap) none (some (.int .i64 (i : Int))) (some (.int .i64 (i : Int)))).run Try.prog W = .ok v W) ∧ Nums w v (x.take i) := by
  have hn : n = x.length := by
    obtain ⟨a', c', e, _⟩ := h.get
    injection e
  refine ⟨.slice a i i, fun W => ?_, ?_⟩
  · rw [run_sliceAt_slice _ _ _ _ _ _ elemInt, run_slice_hm _ _ _ _ _ elemInt _ _ _ _ (by omega) (by omega) (by omega), sizeInt]
    simp only [Result.andThen_ok, sliced, Int.toNat_natCast, Nat.sub_zero, Nat.zero_mul]
    congr 2
    split
    · rfl
    · cases a <;> rfl
  · have hl : (x.take i).length = i := by rw [List.length_take]; omega
    rcases h with ⟨e, hx⟩ | ⟨ad, c, e, hcell⟩
    · injection e with e1 e2 e3
      subst hx
      simp at hi
      subst e1 hi
      exact .inl ⟨rfl, by simp⟩
    · injection e with e1 e2 e3
      subst e1
      refine .inr ⟨ad, i, by rw [hl], fun j hj u v hu => ?_⟩
      rw [hl] at hj
      rw [el_take hj] at hu
      exact hcell j (by omega) u v hu
/-- x[i:]. -/
theorem cut_tail {w : World} {a : Option Addr} {n cap : Nat} {x : List Int} (h : Nums w (.slice a n cap) x) (hc : n ≤ cap) {i : Nat} (hi : i ≤ x.length) :
    ∃ v, (∀ W : World, (Instr.sliceAt 25 (.slice a n cap) (some (.int .i64 (i : Int))) none none).run Try.prog W = .ok v W) ∧ Nums w v (x.drop i) := by
  have hn : n = x.length := by
    obtain ⟨a', c', e, _⟩ := h.get
    injection e
  refine ⟨.slice (if cap = i then a else a.map (·.add i)) (n - i) (cap - i), fun W => ?_, ?_⟩
  · rw [run_sliceAt_slice _ _ _ _ _ _ elemInt, run_slice_l _ _ _ _ _ elemInt _ _ (by omega) (by omega), sizeInt]
    simp only [Result.andThen_ok, sliced, Int.toNat_natCast, Nat.mul_one]
  · have hl : (x.drop i).length = n - i := by rw [List.length_drop, hn]
    rcases h with ⟨e, hx⟩ | ⟨ad, c, e, hcell⟩
    · injection e with e1 e2 e3
      subst hx
      simp at hi
      subst e1 e2 e3 hi
      exact .inl ⟨rfl, by simp⟩
    · injection e with e1 e2 e3
      subst e1
      by_cases hci : cap = i
      · rw [if_pos hci]
        exact .inr ⟨ad, cap - i, by rw [hl], fun j hj u v hu => by rw [hl] at hj; omega⟩
      · rw [if_neg hci]
        refine .inr ⟨ad.add i, cap - i, by rw [hl]; rfl, fun j hj u v hu => ?_⟩
        rw [hl] at hj
        have he : el (x.drop i) j = el x (i + j) := by simp [el]
        rw [he] at hu
        have h9 := hcell (i + j) (by omega) u v hu
        rw [Addr.add_add]
        rwa [show i + (j * 1 + u) = (i + j) * 1 + u by omega]
end Go.Proofs.Ytnbiojjcebdljaa.Wt
