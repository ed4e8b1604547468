/- Lists of numbers that came in, and their copy. -/
import Derived.Test.YtkeeiihaijhdoaaNn
import Derived.Test.YtkeeiihaijhdoaaRw
import Derived.Test.YtkeeiihaijhdoaaRn
namespace Go.Proofs.Ytkeeiihaijhdoaa.Wt
open Go.ChangeShapes Go.WideShapes Go.ChangeAt Go.RowKit
open Go.Proofs.Ytkeeiihaijhdoaa.Pl
set_option linter.unusedVariables false
set_option linter.unusedSimpArgs false
theorem row_nums {w : World} {a : Option Addr} {len cap : Nat} {zs : List Int} (h : IsRow .i64 w a len cap zs) : Nums w (.slice a len cap) (zs.take len) ∧ (zs.take len).length = len ∧ len ≤ cap := by
  rcases h with ⟨rfl, rfl, rfl, rfl⟩ | ⟨x, rfl, h1, h2, h3, h4, h5⟩
  · exact ⟨.inl ⟨rfl, rfl⟩, rfl, Nat.le_refl _⟩
  · have hl : (zs.take len).length = len := by rw [List.length_take]; omega
    refine ⟨.inr ⟨x, cap, by rw [hl], fun j hj i u hu => ?_⟩, hl, h1⟩
    match i, hu with
    | 0, hu =>
      simp [encI1] at hu
      subst hu
      rw [hl] at hj
      rw [Nat.mul_one, Nat.add_zero, h4 j (by omega)]
      have h6 : j < zs.length := by omega
      simp [el, List.getElem?_take, hj, h6, List.getD_eq_getElem?_getD]
    | i + 1, hu => simp [encI1] at hu
theorem ints_nums (v : Value) (l : List Int) (w : World) (h : Nums w v l) (hok : l.length * 8 ≤ 140737488351232) :
    Calls Try.prog 15 #[v] w fun e w' => ∃ v', e = .returned v' ∧ Nums w' v' l ∧ Below w.heap.size w w' := by
  obtain ⟨i0, hi0, hz0, hz1, hz2⟩ := info_parts infoIntU
  obtain ⟨v1, w1, r1, ho1, hg1⟩ := run_append_rows (P := Try.prog) (w := w) encI1_len (by decide) encI1_one 35 35 w.heap.size 3 i0 _ 8 Try.underlying35 hi0 hz0 hz1 hz2 rfl (.slice none 0 0) 0 [] (World.ownsRow_nil _ _ _ _) v l h (by unfold maxLen; omega) (by omega) (Nat.le_refl _)
  have HR1 := hidP r1
  have HX : Hid (Nums w1 v1 l) := Row.ofOwn encI1_len (own_zero ho1) rfl
  have HB : Hid (Below w.heap.size w w1) := below_new (Nat.le_refl _) hg1
  clear r1 ho1 hg1 h
  go_enter Try.func15, Try.ntmps15
  go_wp2_with (first
    | (at_builtin; refine wpListAppendRun rfl _ _ 35 rfl rfl rfl HR1.out ?_; clear HR1))
  go_ret
  exact ⟨_, rfl, HX.out, HB.out⟩
end Go.Proofs.Ytkeeiihaijhdoaa.Wt
