/- What distance answers of machines of small weights, as numbers. -/
import Derived.Test.YtfekmlblldhieaaGreatDoorJ17A
import Derived.Test.YtfekmlblldhieaaGreatDoorKj
import Derived.Test.YtfekmlblldhieaaGreatDoorJ17h
namespace Go.Proofs.YtfekmlblldhieaaGreatDoor.Wt
open Go.ChangeShapes Go.WideShapes Go.ChangeAt Go.RowKit
open Go.Proofs.YtfekmlblldhieaaGreatDoor.Pl
set_option linter.unusedVariables false
set_option linter.unusedSimpArgs false
/-- A list of costs is answered, and no error. -/
def DstRes (m : Mc) (P : Nat → Nat → Prop) (w : World) (e : Ending) (w' : World) : Prop := ∃ vr vs, e = .returned (.tuple #[vr, .int .i64 0]) ∧ (vs.length = m.2.length ∧ ∀ q, q < m.2.length → CstIs (P q) (el vs q)) ∧ Nums w' vr vs ∧ Below w.heap.size w w'
theorem ends_cst (v : Value) (m : Mc) (w : World) (h : Mach w v m) (hr : faultM m = 0) (hc : CheapL m.2) : Calls Tryz.prog 16 #[v] w fun e w' => DstRes m (EndC m.2) w e w' := by
  refine (endsP_any v m w h (right_ok hr)).mono ?_
  rintro e w' ⟨vr, vs, ec, rfl, hq, hn, hb⟩
  obtain ⟨rfl, h1, h2⟩ := end_cst hr hc hq
  exact ⟨vr, vs, rfl, ⟨h1, h2⟩, hn, hb⟩
theorem least_cst (v : Value) (m : Mc) (w : World) (h : Mach w v m) (hr : faultM m = 0) (hc : CheapL m.2) (hz : 0 ≤ m.1) : Calls Tryz.prog 7 #[v] w fun e w' => ∃ x : Int, e = .returned (.tuple #[.int .i64 x, .int .i64 0]) ∧ CstIs (EndC m.2 m.1.toNat) x ∧ Below w.heap.size w w' := by
  refine (leastP_any v m w h (right_ok hr)).mono ?_
  rintro e w' ⟨x, ec, rfl, hq, hb⟩
  obtain ⟨rfl, h1⟩ := lpa_cst hr hc hz hq
  exact ⟨x, rfl, h1, hb⟩
theorem made_start (r : Int × List (Int × Bool × List Ar)) (k : Nat) (full : Bool) (h0 : 0 < k) : 0 ≤ (madeM r k full).1 := by
  show 0 ≤ pkR r.1 (sizeM r k)
  have hs : 0 < sizeM r k := by
    unfold sizeM
    omega
  exact (pkR_bd r.1 _ (by omega)).1
theorem cst_most {P : Nat → Prop} {n : Int} (h : CstIs P n) : 0 ≤ n ∧ n ≤ 1000000001 ∧ (decide (1000000001 ≤ n) == (n == 1000000001)) = true := by
  rcases h with ⟨rfl, _⟩ | ⟨c, _, hc, rfl⟩
  · simp
  · refine ⟨by omega, by omega, ?_⟩
    have h1 : decide ((1000000001 : Int) ≤ (c : Int)) = false := by simp; omega
    have h2 : ((c : Int) == 1000000001) = false := by simp; omega
    rw [h1, h2]; rfl
end Go.Proofs.YtfekmlblldhieaaGreatDoor.Wt
