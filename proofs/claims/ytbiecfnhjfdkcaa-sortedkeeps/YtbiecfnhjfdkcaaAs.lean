/- slices.SortFunc at arcs of the call's own; what sortedBy makes. -/
import Derived.Test.YtbiecfnhjfdkcaaAo
import Derived.Test.YtbiecfnhjfdkcaaShelf
import Derived.Test.YtbiecfnhjfdkcaaMcC
namespace Go.Proofs.Ytbiecfnhjfdkcaa.Wt
open Go.ChangeShapes Go.WideShapes Go.ChangeAt Go.RowKit
open Go.Proofs.Ytbiecfnhjfdkcaa.Pl
set_option linter.unusedVariables false
set_option linter.unusedSimpArgs false
theorem flat_same {α : Type} [Inhabited α] {k : Nat} {enc : α → List Value} (hk : ∀ x, (enc x).length = k) (hk0 : 0 < k) (xs : List α) : (Go.Sort.flatK enc k xs.toArray).toList = xs.flatMap enc := by
  apply List.ext_getElem?
  intro t
  by_cases ht : t < xs.length * k
  · have hq : t / k < xs.length := (Nat.div_lt_iff_lt_mul hk0).2 ht
    have hm : t % k < k := Nat.mod_lt _ hk0
    have he : t / k * k + t % k = t := by rw [Nat.mul_comm]; exact Nat.div_add_mod t k
    have h2 := flat_at hk xs (t / k) hq (t % k) hm
    rw [he] at h2
    rw [h2]
    have h1 := Go.Sort.get_flatK enc k xs.toArray t (by simpa using ht)
    have hs : t < (Go.Sort.flatK enc k xs.toArray).size := by simpa using ht
    rw [getElem!_pos _ t hs] at h1
    rw [List.getElem?_eq_getElem (by simpa using hs), Array.getElem_toList, h1]
    have e1 : xs.toArray[t / k]! = el xs (t / k) := by simp [el, hq]
    rw [e1, List.getElem?_eq_getElem (by rw [hk]; exact hm), getElem!_pos _ _ (by rw [hk]; exact hm)]
  · rw [List.getElem?_eq_none (by simp; omega), List.getElem?_eq_none (by rw [flat_length hk]; omega)]
/-- The key lies there. -/
structure KeyAt (w : World) (K : Nat) (s : Bool) : Prop where
  lt : K < w.heap.size
  c0 : w.cell? ⟨K, 0, none⟩ = some (.int .i64 (if s then 1 else 0))
  c1 : w.cell? ⟨K, 1, none⟩ = some (.int .i64 (if s then 0 else 1))
  c2 : w.cell? ⟨K, 2, none⟩ = some (.int .i64 2)
  c3 : w.cell? ⟨K, 3, none⟩ = some (.int .i64 3)
theorem KeyAt.same {w w' : World} {K : Nat} {s : Bool} (h : KeyAt w K s) (hs : w.heap.size ≤ w'.heap.size) (he : ∀ i, w'.cell? ⟨K, i, none⟩ = w.cell? ⟨K, i, none⟩) : KeyAt w' K s :=
  ⟨Nat.lt_of_lt_of_le h.lt hs, (he _).trans h.c0, (he _).trans h.c1, (he _).trans h.c2, (he _).trans h.c3⟩
theorem KeyAt.below {w w' : World} {K B : Nat} {s : Bool} (h : KeyAt w K s) (hb : Below B w w') (hB : K < B) : KeyAt w' K s := h.same hb.size fun i => hb.cell hB
theorem ltOf_aheadS (s : Bool) : (Go.Proofs.ltOf (cmpS s)) = aheadS s := by
  funext a b
  exact cmpS_neg s a b
theorem swo_ahead (s : Bool) : Go.Sort.SWO (aheadS s) := by
  cases s
  · exact ⟨fun x => ahead_irrefl x, fun x y z h1 h2 => ahead_lt h1 h2, fun x y z h1 h2 => ahead_trans h2 h1⟩
  · exact ⟨fun x => ahead_irrefl (flipA x), fun x y z h1 h2 => ahead_lt (a := flipA x) (b := flipA y) (c := flipA z) h1 h2, fun x y z h1 h2 => ahead_trans (a := flipA z) (b := flipA y) (c := flipA x) h2 h1⟩
theorem total_ahead (s : Bool) (x y : Ar) (h1 : aheadS s x y = false) (h2 : aheadS s y x = false) : x = y := by
  cases s
  · exact ahead_same h1 h2
  · have h := ahead_same (a := flipA x) (b := flipA y) h1 h2
    exact congrArg flipA h
theorem cmp_lays (s : Bool) (K g n : Nat) (w : World) (hK : KeyAt w K s) (hg : g < w.heap.size) (hne : K ≠ g) : Go.Proofs.CmpLays Try.prog 60 #[.pointer (some ⟨K, 0, none⟩)] encA 4 (cmpS s) g 0 n w := by
  intro m os dk hdk x y
  have hs : w.heap.size ≤ (Go.Proofs.sortWorldK encA 4 w g 0 m dk os).heap.size := by
    simp [Go.Proofs.sortWorldK, Go.Sort.putRowK, Go.Sort.putRow, Go.Sort.mapBlock, Go.Sort.ahead]
  have hp : w.heap.size ≤ (Go.Sort.putRow id (Go.Sort.ahead w m) g 0 (Go.Sort.flatK encA 4 dk)).heap.size := by simp [Go.Sort.putRow, Go.Sort.mapBlock, Go.Sort.ahead]
  have hc : ∀ i, (Go.Proofs.sortWorldK encA 4 w g 0 m dk os).cell? ⟨K, i, none⟩ = w.cell? ⟨K, i, none⟩ := fun i => by
    unfold Go.Proofs.sortWorldK Go.Sort.putRowK
    rw [Go.Sort.cell?_grow _ _ _ (Nat.lt_of_lt_of_le hK.lt hp), Go.Sort.cell?_putRow_other _ _ _ _ _ _ (.inl hne)]
    rfl
  have hK' := hK.same hs hc
  exact (order_any s x y K _ _ _ ⟨rfl, rfl⟩ hK'.lt hK'.c0 hK'.c1 hK'.c2 hK'.c3).mono fun e w' ⟨he, hb, hd⟩ => ⟨he, later_grow hb hd⟩
/-- The row behind the sort. -/
theorem own_sorted {w : World} {base g cap m : Nat} {l r : List Ar} {cur : Array Value} {os : Array Obj} (hb : base ≤ g) (hh : w.heap[g]? = some (.cells cur 43 (0, 0))) (hn : l.length ≤ cap) (hcap : cap ≤ maxLen) (hcs : cur.size = cap * 4) (hr : r.length = l.length) :
    (Go.Proofs.sortWorldK encA 4 w g 0 m r.toArray os).ownsRow base 43 4 (.slice (some ⟨g, 0, none⟩) l.length cap) l.length (r.flatMap encA) ∧ w.grownBy (Go.Proofs.sortWorldK encA 4 w g 0 m r.toArray os) (some g) := by
  have hlt : g < w.heap.size := lt_of_block hh
  have hF : (Go.Sort.flatK encA 4 r.toArray).toList = r.flatMap encA := flat_same encA_len (by decide) r
  have hFs : (Go.Sort.flatK encA 4 r.toArray).size = l.length * 4 := by simp [hr]
  constructor
  · refine ⟨by rw [flat_length encA_len, hr], .inr ⟨g, cap, Go.Sort.putCells id 0 (Go.Sort.flatK encA 4 r.toArray) cur, rfl, hb, ?_, hn, hcap, ?_, ?_⟩⟩
    · simp only [Go.Proofs.sortWorldK, Go.Sort.putRowK, Go.Sort.putRow, Go.Sort.mapBlock, Go.Sort.grow, Go.Sort.ahead]
      rw [Array.getElem?_append_left (by simpa using hlt), Array.getElem?_modify, if_pos rfl, hh]
      rfl
    · simp [Go.Sort.putCells, hcs]
    · rw [← hF]
      apply List.ext_getElem?
      intro t
      by_cases ht : t < l.length * 4
      · have hc : t < cur.size := by rw [hcs]; exact Nat.lt_of_lt_of_le ht (Nat.mul_le_mul_right _ hn)
        rw [List.getElem?_take_of_lt ht]
        simp only [Go.Sort.putCells, Array.getElem?_toList, Array.getElem?_mapIdx, Array.getElem?_eq_getElem hc, Option.map_some]
        rw [if_pos ⟨Nat.zero_le _, by rw [hFs]; omega⟩, Array.getElem?_eq_getElem (by rw [hFs]; exact ht)]
        simp [getElem!_pos, hr, ht]
      · rw [List.getElem?_eq_none (by simp; omega), List.getElem?_eq_none (by rw [Array.length_toList, hFs]; omega)]
  · refine ⟨rfl, rfl, rfl, by simp [Go.Proofs.sortWorldK, Go.Sort.putRowK, Go.Sort.putRow, Go.Sort.mapBlock, Go.Sort.ahead], fun k hk hne => ?_⟩
    simp only [Go.Proofs.sortWorldK, Go.Sort.putRowK, Go.Sort.putRow, Go.Sort.mapBlock, Go.Sort.grow, Go.Sort.ahead]
    rw [Array.getElem?_append_left (by simpa using hk), Array.getElem?_modify, if_neg (by intro e; exact hne (by rw [e]))]
set_option maxRecDepth 100000 in
theorem sort_own (s : Bool) (K base : Nat) (v : Value) (l : List Ar) (w : World) (hK : KeyAt w K s) (hKb : K < base) (hv : w.ownsRow base 43 4 v l.length (l.flatMap encA)) (hl : l.length < 4611686018427387904) :
    Calls Try.prog 49 #[v, .func (.func 60) #[] #[.pointer (some ⟨K, 0, none⟩)]] w fun e w' => e = .returned (.tuple #[]) ∧ w'.ownsRow base 43 4 v l.length ((sortS s l).flatMap encA) ∧ w.grownBy w' v.ownBlock := by
  have hv' := hv
  by_cases h0 : l.length = 0
  · obtain rfl : l = [] := List.eq_nil_of_length_eq_zero h0
    obtain ⟨a, cap, rfl⟩ := own_sl hv
    exact (AnyF.slices_SortFunc_none Try.sortArc a cap _ w).mono fun e w' ⟨he, hw⟩ => ⟨he, by subst hw; simpa [sortS] using hv', by subst hw; exact World.grownBy.refl _ _⟩
  · rcases hv.2 with ⟨_, h⟩ | ⟨g, cap, cur, rfl, hb, hh, hn, hcap, hcs, htk⟩
    · exact absurd h h0
    · have hlt : g < w.heap.size := lt_of_block hh
      have eg : ∀ args w, (callFunc 60 args).run Try.prog w = .ok (.enter 60 args) w := enters_of Try.func60 (by kernel_rfl) rfl
      have hH : Go.Sort.HoldsK encA 4 w g 0 l.toArray := by
        intro j hj
        have hF : (Go.Sort.flatK encA 4 l.toArray).toList = l.flatMap encA := flat_same encA_len (by decide) l
        have hj' : j < l.length * 4 := by simpa using hj
        have h1 := hv'.cellAt j hj'
        rw [Nat.zero_add, h1]
        refine ⟨?_, hv'.frozenAt j⟩
        rw [← hF, List.getElem?_eq_getElem (by simpa using hj), Array.getElem_toList, getElem!_pos (Go.Sort.flatK encA 4 l.toArray) j hj]
        rfl
      have hc := AnyQ.slices_SortFunc_total Try.sortArc 4 Try.isAgg43 Try.sizeOf43 encA encA_len encA_one (cmpS s) (by rw [ltOf_aheadS]; exact swo_ahead s) 60 #[.pointer (some ⟨K, 0, none⟩)] g 0 cap l.toArray w eg (cmp_lays s K g _ w hK hlt (by omega)) hH hlt (by simpa using hl) (by rw [ltOf_aheadS]; exact total_ahead s)
      rw [ltOf_aheadS] at hc
      refine Calls.mono (R := _) hc ?_
      rintro e w' ⟨he, m, os, hw⟩
      subst hw
      have := own_sorted (m := m) (os := os) (r := sortS s l) hb hh hn hcap hcs (sortS_length s l)
      exact ⟨he, this.1, this.2⟩
end Go.Proofs.Ytbiecfnhjfdkcaa.Wt
