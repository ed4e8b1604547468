/- What a machine costs for two words, as the keeping statements ask. -/
import Derived.Test.YtjpfpdbhdcopbaaJ14z
import Derived.Test.YtjpfpdbhdcopbaaJ14l
namespace Go.Proofs.Ytjpfpdbhdcopbaa.Wt
open Go.ChangeShapes Go.WideShapes Go.ChangeAt Go.RowKit
open Go.Proofs.Ytjpfpdbhdcopbaa.Pl
set_option linter.unusedVariables false
set_option linter.unusedSimpArgs false
/-- cost(m, x, y). -/
theorem cost_any (v vx vy : Value) (m : Mc) (x y : List Int) (w : World) (h : Mach w v m) (hok : okM m) (hr : faultM m = 0) (hc : CheapL m.2) (nx : Nums w vx x) (ny : Nums w vy y) (ex : wrdE x = 0) (ey : wrdE y = 0) :
    Calls Try.prog 13 #[v, vx, vy] w fun e w' => ∃ n : Int, e = .returned (.int .i64 n) ∧ CstIs (Costs m x y) n ∧ Below w.heap.size w w' := by
  have HW : Hid (∀ W, Below w.heap.size w W → Calls Try.prog 37 #[v, vx, vy] W fun e w' => ∃ n : Int, e = .returned (.tuple #[.int .i64 n, .int .i64 0]) ∧ CstIs (Costs m x y) n ∧ Below W.heap.size W w') := fun W hW => (weighP_any v vx vy m x y W (h.later hW (Nat.le_refl _)) hok (nx.later hW (Nat.le_refl _)) (ny.later hW (Nat.le_refl _))).mono fun e w' ⟨n, ec, he, ha, hb⟩ => by
    have hE : wghE2 m x y = 0 := by unfold wghE2; rw [if_neg (by simp [hr])]; unfold croE; rw [if_neg (by simp [ex])]; exact ey
    unfold WgR at ha
    rw [if_pos hE] at ha
    obtain ⟨h1, h2⟩ := cst_of ha (costs_bound hr hc (wrd_parts ex).1 (wrd_parts ey).1)
    subst h1
    exact ⟨n, he, h2, hb⟩
  obtain ⟨z, l⟩ := m
  obtain ⟨vs, rfl, hS⟩ := h
  obtain ⟨a, cap, rfl⟩ := hS.sl
  obtain ⟨ax, cx, rfl, _⟩ := nx.get
  obtain ⟨ay, cy, rfl, _⟩ := ny.get
  clear hS hok hr hc nx ny ex ey
  generalize (fun n => CstIs (Costs (z, l) x y) n) = Q at *
  go_enter Try.func13, Try.ntmps13
  go_wp2_with (first
    | (go_at_call 37; (with_reducible refine (HW.out _ (by go_grown)).mono ?_); rintro e w1 ⟨n, rfl, hq, hb⟩; have HQ := hidP hq; have HB1 : Hid (Below w.heap.size w w1) := (boxed hb (by simp)).2.2; clear hq hb))
  go_ret
  exact ⟨n, rfl, HQ.out, HB1.out⟩
end Go.Proofs.Ytjpfpdbhdcopbaa.Wt
