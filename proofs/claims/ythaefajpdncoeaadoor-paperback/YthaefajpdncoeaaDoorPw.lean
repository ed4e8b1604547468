/- The program's writer: lines of words. -/
import Derived.Test.YthaefajpdncoeaaDoorBw
import Derived.Test.YthaefajpdncoeaaDoorShelf
import Derived.Test.YthaefajpdncoeaaDoorTa
import Derived.Test.YthaefajpdncoeaaDoorSh
import Derived.Test.YthaefajpdncoeaaDoorPlainPe
import Derived.Test.YthaefajpdncoeaaDoorRg
import Derived.Deep.RegionWith
namespace Go.Proofs.YthaefajpdncoeaaDoor.Wt
open Go.ChangeShapes Go.WideShapes Go.ChangeAt Go.RowKit
open Go.Proofs.YthaefajpdncoeaaDoor.Pl
set_option linter.unusedVariables false
set_option linter.unusedSimpArgs false
/-- Words in memory, from the head of a block on. -/
def Wds (w : World) (bk : Nat) (xs : List ByteArray) : Prop := bk < w.heap.size ∧ ∀ (j : Nat) x, xs[j]? = some x → w.cell? ⟨bk, 0 + j, none⟩ = some (.string x)
theorem Wds.later {w w' : World} {bk : Nat} {xs : List ByteArray} (h : Wds w bk xs) (hb : Below w.heap.size w w') : Wds w' bk xs :=
  ⟨Nat.lt_of_lt_of_le h.1 hb.size, fun j x hx => (hb.cell (p := ⟨bk, 0 + j, none⟩) h.1).trans (h.2 j x hx)⟩
theorem Wds.made (w : World) (xs : List ByteArray) (t : TypeId) : Wds (w.alloc (.cells (xs.map Value.string).toArray t)) w.heap.size xs := by
  refine ⟨by simp, fun j x hx => ?_⟩
  have h := Lib.cell_of_heap (w := w.alloc (.cells (xs.map Value.string).toArray t)) (b := w.heap.size) (cs := (xs.map Value.string).toArray) (T := t) (fr := (0, 0)) (by show (w.heap.push _)[w.heap.size]? = _; simp) (0 + j)
  rw [h]
  simp [hx]
theorem join_any (bk c : Nat) (xs : List ByteArray) (n : Nat) (w : World) (h : Wds w bk xs) (hn : xs.length = n) (hc : n ≤ c) (hn5 : n ≤ 100) (hl : (lineP (xs.map (·.data.toList))).length ≤ 1000) :
    Calls Tryd.prog 52 #[.slice (some ⟨bk, 0, none⟩) n c, .string ⟨#[32]⟩] w fun e w' => e = .returned (.string (textS (lineP (xs.map (·.data.toList))))) ∧ Below w.heap.size w w' := by
  subst hn
  have e : Lib.join (xs.map (·.data.toList)) (⟨#[32]⟩ : ByteArray).data.toList = lineP (xs.map (·.data.toList)) := join_line _
  have := Tryd.strings_Join bk 0 c xs ⟨#[32]⟩ w h.2 h.1 (by omega) hc (by rw [e]; omega)
  rw [e] at this
  exact this
set_option maxHeartbeats 1000000 in
theorem line_any (B b : Nat) (l : List UInt8) (bk c : Nat) (xs : List ByteArray) (n : Nat) (w : World) (h : Bld B b l w) (hs : Wds w bk xs) (hn : xs.length = n) (hc : n ≤ c) (hn5 : n ≤ 100) (hx : (lineP (xs.map (·.data.toList))).length ≤ 1000) (hl : l.length ≤ 500000) (hBw : B ≤ w.heap.size)
    (t : List UInt8) (ht : l ++ lineP (xs.map (·.data.toList)) ++ [10] = t) :
    Calls Tryd.prog 32 #[.pointer (some ⟨b, 0, none⟩), .slice (some ⟨bk, 0, none⟩) n c] w fun e w' => e = .returned (.tuple #[]) ∧ (Bld B b t w' ∧ Below B w w' ∧ Oth w w') := by
  obtain ⟨y, hy⟩ : ∃ y, textS (lineP (xs.map (·.data.toList))) = y := ⟨_, rfl⟩
  have hys : y.size = (lineP (xs.map (·.data.toList))).length := by rw [← hy]; rfl
  have hyl : y.data.toList = lineP (xs.map (·.data.toList)) := by rw [← hy]; rfl
  have HJ : Hid (∀ W : World, Below w.heap.size w W → Calls Tryd.prog 52 #[.slice (some ⟨bk, 0, none⟩) n c, .string ⟨#[32]⟩] W fun e w' => e = .returned (.string y) ∧ Below W.heap.size W w') := fun W hW => by
    have := join_any bk c xs n W (hs.later hW) hn hc hn5 hx
    rw [hy] at this
    exact this
  have HT : Hid (l ++ y.data.toList ++ [10] = t) := by show _ = _; rw [hyl]; exact ht
  have HB : Hid (Bld B b l w) := h
  have HY : Hid (y.size ≤ 1000000) := by show _ ≤ _; omega
  have HL : Hid (l.length ≤ 1000000) := by show _ ≤ _; omega
  have HL2 : Hid ((l ++ y.data.toList).length ≤ 1000000) := by show _ ≤ _; rw [hyl, List.length_append]; omega
  have H10 : Hid ((⟨#[10]⟩ : ByteArray).size ≤ 1000000) := by show 1 ≤ _; omega
  have HD : Hid (Below w.heap.size w w.drew) := (Below.refl _ _).drew
  have HBW : Hid (B ≤ w.heap.size) := hBw
  clear hy hys hyl hx hl ht h hs hn hc hBw
  go_enter Tryd.func32, Tryd.ntmps32
  go_wp2_with fail
  go_region_with (first
    | (go_at_call 52; (with_reducible refine (HJ.out _ HD.out).mono ?_); rintro e w1 ⟨rfl, hb1⟩; have HB1 : Hid (Bld B b l w1) := (HB.out.later HD.out).later hb1; have HW1 : Hid (Below B w w1) := (HD.out.mono HBW.out).trans (hb1.mono HBW.out); have HO1 : Hid (Oth w w1) := (Oth.of HD.out).trans (Oth.of hb1); clear hb1)
    | (go_at_call 51; (with_reducible refine (write_bytes _ _ _ _ _ HB1.out HL.out HY.out (Nat.le_trans HBW.out HW1.out.size)).mono ?_); rintro e w2 ⟨rfl, hB2, hb2, ho2⟩; have HO2 : Hid (Oth w w2) := HO1.out.trans ho2; have HB2 : Hid (Bld B b (l ++ y.data.toList) w2) := hB2; have HW2 : Hid (Below B w w2) := HW1.out.trans hb2; clear hB2 hb2 ho2))
  all_goals go_wp2_with (first
    | (go_at_call 51; (with_reducible refine (write_bytes _ _ _ _ _ HB2.out HL2.out H10.out (Nat.le_trans HBW.out HW2.out.size)).mono ?_); rintro e w3 ⟨rfl, hB3, hb3, ho3⟩; have HO3 : Hid (Oth w w3) := HO2.out.trans ho3; have HB3 : Hid (Bld B b t w3) := (by rw [← HT.out]; exact hB3); have HW3 : Hid (Below B w w3) := HW2.out.trans hb3; clear hB3 hb3 ho3))
  all_goals (go_end0; exact ⟨rfl, HB3.out, HW3.out, HO3.out⟩)
theorem itoa_t (n : Int) (w : World) (ht : Tab w) (h0 : 0 ≤ n) (h1 : n ≤ 2000000000) :
    Calls Tryd.prog 33 #[.int .i64 n] w fun e w' => e = .returned (.string (textS (decT n))) ∧ Below w.heap.size w w' := by
  have e : (⟨(Lib.itoa n).toArray⟩ : ByteArray) = textS (decT n) := by
    rw [itoa_nat h0]; rfl
  refine (Tryd.strconv_Itoa n (by omega) (by omega) w ht).mono ?_
  rw [e]
  rintro e w' ⟨rfl, k, os, rfl⟩
  exact ⟨rfl, below_grow _ _ _⟩
end Go.Proofs.YthaefajpdncoeaaDoor.Wt
