/- What a machine costs for two words, as the keeping statements ask, where its weights may be great. -/
import Derived.Test.YtfhjncpakgailaaGreatDoorMae
import Derived.Test.YtfhjncpakgailaaGreatDoorMak
namespace Go.Proofs.YtfhjncpakgailaaGreatDoor.Wt
open Go.ChangeShapes Go.WideShapes Go.ChangeAt Go.RowKit
open Go.Proofs.YtfhjncpakgailaaGreatDoor.Pl
set_option linter.unusedVariables false
set_option linter.unusedSimpArgs false
theorem costW_any (v vx vy : Value) (m : Mc) (x y : List Int) (w : World) (Q : Int → Prop) (h : Mach w v m) (hok : okM m) (hr : faultM m = 0) (nx : Nums w vx x) (ny : Nums w vy y) (ex : wrdE x = 0) (ey : wrdE y = 0) (hQ : ∀ n e, WghAns (Costs m x y) n e → e = 0 ∧ Q n) :
  Calls Tryz.prog 13 #[v, vx, vy] w fun e w' => ∃ n : Int, e = .returned (.int .i64 n) ∧ Q n ∧ Below w.heap.size w w' := by
 have HW : Hid (∀ W, Below w.heap.size w W → Calls Tryz.prog 38 #[v, vx, vy] W fun e w' => ∃ n : Int, e = .returned (.tuple #[.int .i64 n, .int .i64 0]) ∧ Q n ∧ Below W.heap.size W w') := fun W hW => (weighP_any v vx vy m x y W (h.later hW (Nat.le_refl _)) hok (nx.later hW (Nat.le_refl _)) (ny.later hW (Nat.le_refl _))).mono fun e w' ⟨n, ec, he, ha, hb⟩ => by
  have hE : wghE2 m x y = 0 := by unfold wghE2; rw [if_neg (by simp [hr])]; unfold croE; rw [if_neg (by simp [ex])]; exact ey
  unfold WgR at ha
  rw [if_pos hE] at ha
  obtain ⟨h1, h2⟩ := hQ _ _ ha
  subst h1
  exact ⟨n, he, h2, hb⟩
 obtain ⟨z, l⟩ := m
 obtain ⟨vs, rfl, hS⟩ := h
 obtain ⟨a, cap, rfl⟩ := hS.sl
 obtain ⟨ax, cx, rfl, _⟩ := nx.get
 obtain ⟨ay, cy, rfl, _⟩ := ny.get
 clear hS hok hr nx ny ex ey hQ
 go_enter Tryz.func13, Tryz.ntmps13
 go_wp2_with (first
  | (go_at_call 38; (with_reducible refine (HW.out _ (by go_grown)).mono ?_); rintro e w1 ⟨n, rfl, hq, hb⟩; have HQ := hidP hq; have HB1 : Hid (Below w.heap.size w w1) := (boxed hb (by simp)).2.2; clear hq hb))
 go_ret
 exact ⟨n, rfl, HQ.out, HB1.out⟩
end Go.Proofs.YtfhjncpakgailaaGreatDoor.Wt
