/- Slices of integers in memory, as lists: what a slice that came in holds, what a copy of it holds; the program's areWeights, least and Sum, and the statement's own copy and comparison, over such slices. -/
import Derived.Test.YtanibikfhnglkaaWt
import Derived.SizedLaws
import Derived.Laws.AppendOwnNone
import Derived.BigQuiet
import Derived.Deep.QuietTactic
namespace Go.Proofs.Ytanibikfhnglkaa.Wt
open Go.ChangeShapes Go.WideShapes Go.ChangeAt Go.RowKit
open Go.Proofs.Ytanibikfhnglkaa.Pl
set_option linter.unusedVariables false

def IsRow (k : IntKind) (w : World) (a : Option Addr) (len cap : Nat) (zs : List Int) : Prop :=
  (a = none ∧ len = 0 ∧ cap = 0 ∧ zs = []) ∨
  ∃ x, a = some x ∧ len ≤ cap ∧ cap ≤ maxLen ∧ zs.length = cap ∧ (∀ i, i < zs.length → w.cell? (x.add i) = some (.int k (zs.getD i 0))) ∧ ∀ n ∈ zs, (Lit.int k n).wf = true

/-- The slice value v holds the numbers zs. -/
def Ints (k : IntKind) (w : World) (v : Value) (zs : List Int) : Prop :=
  (v = .slice none 0 0 ∧ zs = []) ∨
  ∃ (x : Addr) (cap : Nat), v = .slice (some x) zs.length cap ∧ ∀ j, j < zs.length → w.cell? (x.add j) = some (.int k (zs[j]?.getD 0))

theorem Ints.ofRow {k : IntKind} {w : World} {a : Option Addr} {len cap : Nat} {zs : List Int} (h : IsRow k w a len cap zs) : Ints k w (.slice a len cap) (zs.take len) ∧ (zs.take len).length = len ∧ len ≤ cap := by
  rcases h with ⟨rfl, rfl, rfl, rfl⟩ | ⟨x, rfl, h1, h2, h3, h4, h5⟩
  · exact ⟨.inl ⟨rfl, rfl⟩, rfl, Nat.le_refl _⟩
  · have hl : (zs.take len).length = len := by rw [List.length_take]; omega
    refine ⟨.inr ⟨x, cap, by rw [hl], fun j hj => ?_⟩, hl, h1⟩
    rw [h4 j (by omega), List.getElem?_take, if_pos (by omega), List.getD_eq_getElem?_getD]

theorem Ints.later {k : IntKind} {w w' : World} {v : Value} {zs : List Int} (h : Ints k w v zs) (hb : Below w.heap.size w w') : Ints k w' v zs := by
  rcases h with h | ⟨x, cap, hv, hc⟩
  · exact .inl h
  · exact .inr ⟨x, cap, hv, fun j hj => (hb.cell (World.block_lt_of_cell? _ _ (hc j hj))).trans (hc j hj)⟩

/-- Where there is an element the address is a plain one. -/
theorem Ints.plain {k : IntKind} {w : World} {v : Value} {zs : List Int} (h : Ints k w v zs) (hz : 0 < zs.length) :
    ∃ b off cap, v = .slice (some ⟨b, off, none⟩) zs.length cap ∧ ∀ j, j < zs.length → w.cell? ⟨b, off + j, none⟩ = some (.int k (zs[j]?.getD 0)) := by
  rcases h with ⟨_, rfl⟩ | ⟨x, cap, hv, hc⟩
  · simp at hz
  · obtain ⟨b, off, spot⟩ := x
    have hs : spot = none := by simpa [Addr.add] using World.cell?_spot (hc 0 hz)
    subst hs
    exact ⟨b, off, cap, hv, fun j hj => by rw [← Addr.add_lit]; exact hc j hj⟩

/-- Where there is none the length is nought. -/
theorem Ints.empty {k : IntKind} {w : World} {v : Value} (h : Ints k w v []) : ∃ a cap, v = .slice a 0 cap := by
  rcases h with ⟨h, _⟩ | ⟨x, cap, hv, _⟩
  · exact ⟨_, _, h⟩
  · exact ⟨_, _, hv⟩

theorem are_none (a : Option Addr) (cap : Nat) (w : World) :
    Calls Try.prog 20 #[.slice a 0 cap] w fun e w' => e = .returned (.bool true) ∧ w' = w := by
  go_enter Try.func20, Try.ntmps20
  go_wp2
  refine wp_loop_rounds 1 ?_; rw [rounds_succ]
  go_wp2
  go_ret
  exact ⟨rfl, rfl⟩
theorem least_none (a : Option Addr) (cap : Nat) (w : World) :
    Calls Try.prog 21 #[.slice a 0 cap] w fun e w' => e = .returned (.int .i64 1000000001) ∧ w' = w := by
  go_enter Try.func21, Try.ntmps21
  go_wp2
  refine wp_loop_rounds 1 ?_; rw [rounds_succ]
  go_wp2
  go_ret
  exact ⟨rfl, rfl⟩

theorem are_any (v : Value) (zs : List Int) (r : Bool) (w : World) (h : Ints .i64 w v zs) (hm : zs.length ≤ maxLen) (hr : allW zs = r) :
    Calls Try.prog 20 #[v] w fun e w' => e = .returned (.bool r) ∧ w = w' := by
  subst hr
  by_cases hz : 0 < zs.length
  · obtain ⟨b, off, cap, rfl, hc⟩ := h.plain hz
    exact (are_some b off _ cap zs w rfl hm hc).mono fun e w' ⟨h1, h2⟩ => ⟨h1, h2.symm⟩
  · obtain rfl : zs = [] := List.eq_nil_of_length_eq_zero (by omega)
    obtain ⟨a, cap, rfl⟩ := h.empty
    exact (are_none a cap w).mono fun e w' ⟨h1, h2⟩ => ⟨h1, h2.symm⟩
theorem least_any (v : Value) (zs : List Int) (r : Int) (w : World) (h : Ints .i64 w v zs) (hm : zs.length ≤ maxLen) (hr : minL zs = r) :
    Calls Try.prog 21 #[v] w fun e w' => e = .returned (.int .i64 r) ∧ w = w' := by
  subst hr
  by_cases hz : 0 < zs.length
  · obtain ⟨b, off, cap, rfl, hc⟩ := h.plain hz
    exact (least_some b off _ cap zs w rfl hm hc).mono fun e w' ⟨h1, h2⟩ => ⟨h1, h2.symm⟩
  · obtain rfl : zs = [] := List.eq_nil_of_length_eq_zero (by omega)
    obtain ⟨a, cap, rfl⟩ := h.empty
    exact (least_none a cap w).mono fun e w' ⟨h1, h2⟩ => ⟨h1, h2.symm⟩

def sumR (zs : List Int) : Int × Int := if 400 < zs.length then (0, 1) else if allW zs = true then (minL zs, 0) else (0, 2)

theorem sum_any (v : Value) (zs : List Int) (w : World) (h : Ints .i64 w v zs) (hm : zs.length ≤ maxLen) :
    Calls Try.prog 15 #[v] w fun e w' => e = .returned (.tuple #[.int .i64 (sumR zs).1, .int .i64 (sumR zs).2]) ∧ w = w' := by
  have hv : ∃ a cap, v = .slice a zs.length cap := by
    rcases h with ⟨rfl, rfl⟩ | ⟨x, cap, rfl, _⟩
    · exact ⟨none, 0, rfl⟩
    · exact ⟨_, _, rfl⟩
  obtain ⟨a, cap, rfl⟩ := hv
  have HI : Hid (Ints .i64 w (.slice a zs.length cap) zs) := h
  have HM : Hid (zs.length ≤ maxLen) := hm
  have HR : Hid (sumR zs = if 400 < zs.length then (0, 1) else if allW zs = true then (minL zs, 0) else (0, 2)) := rfl
  unfold maxLen at hm
  clear h
  generalize hn : zs.length = n at *
  have HN : Hid (zs.length = n) := hn
  clear hn
  by_cases hl : 400 < n
  · have HQ : Hid (sumR zs = (0, 1)) := by show _ = _; rw [HR.out, if_pos hl]
    have hl' : (400 : Int) < (n : Int) := by omega
    go_enter Try.func15, Try.ntmps15
    go_wp2
    go_ret2
    exact ⟨ret_pair HQ.out, rfl⟩
  · have hl' : ¬ (400 : Int) < (n : Int) := by omega
    rcases bool_cases (allW zs) with hw | hw
    · have HQ : Hid (sumR zs = (minL zs, 0)) := by show _ = _; rw [HR.out, if_neg hl, if_pos hw]
      have HA : Hid (allW zs = true) := hw
      clear hw
      generalize hmm : minL zs = m at HQ
      have HMM : Hid (minL zs = m) := hmm
      clear hmm
      go_enter Try.func15, Try.ntmps15
      go_wp2_with (first | (go_at_call 20; refine (are_any _ zs true _ HI.out (by rw [HN.out]; exact HM.out) HA.out).mono ?_; rintro e w' ⟨rfl, rfl⟩) | (go_at_call 21; refine (least_any _ zs m _ HI.out (by rw [HN.out]; exact HM.out) HMM.out).mono ?_; rintro e w' ⟨rfl, rfl⟩))
      go_ret2
      exact ⟨ret_pair HQ.out, rfl⟩
    · have HQ : Hid (sumR zs = (0, 2)) := by show _ = _; rw [HR.out, if_neg hl, if_neg (by rw [hw]; simp)]
      have HA : Hid (allW zs = false) := hw
      clear hw
      go_enter Try.func15, Try.ntmps15
      go_wp2_with (first | (go_at_call 20; refine (are_any _ zs false _ HI.out (by rw [HN.out]; exact HM.out) HA.out).mono ?_; rintro e w' ⟨rfl, rfl⟩))
      go_ret2
      exact ⟨ret_pair HQ.out, rfl⟩
end Go.Proofs.Ytanibikfhnglkaa.Wt
