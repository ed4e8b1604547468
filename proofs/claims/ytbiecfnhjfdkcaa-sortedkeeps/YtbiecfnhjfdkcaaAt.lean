/- What sortedBy makes: a function that puts arcs in order. -/
import Derived.Test.YtbiecfnhjfdkcaaAs
import Derived.Shelf.Abstract
import Derived.Laws.EntriesVeiled
namespace Go.Proofs.Ytbiecfnhjfdkcaa.Wt
open Go.ChangeShapes Go.WideShapes Go.ChangeAt Go.RowKit
open Go.Proofs.Ytbiecfnhjfdkcaa.Pl
set_option linter.unusedVariables false
set_option linter.unusedSimpArgs false
/-- The function value leaves of arcs of the call's own f of them, in their place. -/
def PutAt (g : Nat) (lb : Array Value) (f : List Ar → List Ar) (w0 : World) : Prop :=
  ∀ (W : World) (base : Nat) (v : Value) (l : List Ar), Below w0.heap.size w0 W → w0.heap.size ≤ base → W.ownsRow base 43 4 v l.length (l.flatMap encA) → l.length * 32 ≤ 140737488351232 →
    Calls Try.prog g (#[v] ++ lb) W fun e w' => ∃ v', e = .returned v' ∧ w'.ownsRow base 43 4 v' (f l).length ((f l).flatMap encA) ∧ W.grownBy w' v.ownBlock
theorem PutAt.later {g : Nat} {lb : Array Value} {f : List Ar → List Ar} {w0 w1 : World} (h : PutAt g lb f w0) (hb : Below w0.heap.size w0 w1) : PutAt g lb f w1 :=
  fun W base v l hW hB hv hl => h W base v l (hb.trans (hW.mono hb.size)) (Nat.le_trans hb.size hB) hv hl
set_option maxRecDepth 100000 in
/-- The list itself comes back, in order. -/
theorem sorted_same (s : Bool) (K F : Nat) (w0 W : World) (base : Nat) (v : Value) (l : List Ar) (hK : KeyAt w0 K s) (hF : F < w0.heap.size) (hc : w0.cell? ⟨F, 0, none⟩ = some (.func (.func 60) #[] #[.pointer (some ⟨K, 0, none⟩)]))
    (hW : Below w0.heap.size w0 W) (hB : w0.heap.size ≤ base) (hv : W.ownsRow base 43 4 v l.length (l.flatMap encA)) (hl : l.length * 32 ≤ 140737488351232) :
    Calls Try.prog 48 #[v, .pointer (some ⟨F, 0, none⟩)] W fun e w' => e = .returned v ∧ w'.ownsRow base 43 4 v (sortS s l).length ((sortS s l).flatMap encA) ∧ W.grownBy w' v.ownBlock := by
  have hc' := (hW.cell (p := ⟨F, 0, none⟩) hF).trans hc
  have HC : Hid (Calls Try.prog 49 #[v, .func (.func 60) #[] #[.pointer (some ⟨K, 0, none⟩)]] W fun e w' => e = .returned (.tuple #[]) ∧ w'.ownsRow base 43 4 v l.length ((sortS s l).flatMap encA) ∧ W.grownBy w' v.ownBlock) :=
    sort_own s K base v l W (hK.below hW hK.lt) (Nat.lt_of_lt_of_le hK.lt hB) hv (by omega)
  have HL : Hid ((sortS s l).length = l.length) := sortS_length s l
  obtain ⟨a, cap, rfl⟩ := own_sl hv
  clear hc hK hW hv
  go_enter Try.func48, Try.ntmps48
  go_wp2_with (first | (go_at_call 49; (with_reducible refine HC.out.mono ?_); rintro e w' ⟨rfl, ho, hg⟩; have HO : Hid (w'.ownsRow base 43 4 (.slice a l.length cap) (sortS s l).length ((sortS s l).flatMap encA)) := (by rw [HL.out]; exact ho); have HG : Hid (W.grownBy w' (Value.ownBlock (.slice a l.length cap))) := hg; clear ho hg))
  go_ret
  exact ⟨rfl, HO.out, HG.out⟩
theorem put_sort (s : Bool) (K F : Nat) (w0 : World) (hK : KeyAt w0 K s) (hF : F < w0.heap.size) (hc : w0.cell? ⟨F, 0, none⟩ = some (.func (.func 60) #[] #[.pointer (some ⟨K, 0, none⟩)])) :
    PutAt 48 #[.pointer (some ⟨F, 0, none⟩)] (sortS s) w0 :=
  fun W base v l hW hB hv hl => (sorted_same s K F w0 W base v l hK hF hc hW hB hv hl).mono fun _ _ ⟨he, ho, hg⟩ => ⟨v, he, ho, hg⟩
theorem ordering_any (a b c d : Int) (w : World) : Calls Try.prog 47 #[.agg #[.int .i64 a, .int .i64 b, .int .i64 c, .int .i64 d]] w fun e w' => e = .returned (.func (.func 60) #[] #[.pointer (some ⟨w.heap.size, 0, none⟩)]) ∧ w' = w.alloc (.cells #[.int .i64 a, .int .i64 b, .int .i64 c, .int .i64 d] 67) := by
  go_enter Try.func47, Try.ntmps47
  go_wp2
  go_ret
  exact ⟨rfl, rfl⟩
/-- What sortedBy answers, at either key. -/
def SortV (s : Bool) (v : Value) (w : World) : Prop := ∃ F K, v = .func (.func 48) #[] #[.pointer (some ⟨F, 0, none⟩)] ∧ F < w.heap.size ∧ KeyAt w K s ∧ w.cell? ⟨F, 0, none⟩ = some (.func (.func 60) #[] #[.pointer (some ⟨K, 0, none⟩)])
theorem sortedBy_any (s : Bool) (k0 k1 : Int) (w : World) (hs : k0 = (if s then 1 else 0) ∧ k1 = (if s then 0 else 1)) :
    Calls Try.prog 33 #[.agg #[.int .i64 k0, .int .i64 k1, .int .i64 2, .int .i64 3]] w fun e w' => ∃ v, e = .returned v ∧ SortV s v w' ∧ Below w.heap.size w w' := by
  have HS : Hid (k0 = (if s then 1 else 0) ∧ k1 = (if s then 0 else 1)) := hs
  clear hs
  go_enter Try.func33, Try.ntmps33
  go_wp2_with (first | (go_at_call 47; (with_reducible refine (ordering_any _ _ _ _ _).mono ?_); rintro e w' ⟨rfl, rfl⟩))
  go_ret
  refine ⟨_, rfl, ⟨w.heap.size + 1 + 1, w.heap.size + 1, rfl, by simp, ⟨by simp, ?_, ?_, ?_, ?_⟩, by go_cell⟩, by go_grown⟩
  · rw [← HS.out.1]; go_cell
  · rw [← HS.out.2]; go_cell
  · go_cell
  · go_cell
end Go.Proofs.Ytbiecfnhjfdkcaa.Wt
