/- What Find answers, and what the reference says. -/
import Derived.Test.YtljpbkkofalinabIz
namespace Go.Proofs.Ytljpbkkofalinab.Wt
open Go.ChangeShapes Go.WideShapes Go.ChangeAt Go.RowKit Go.Maps
open Go.Proofs.Ytljpbkkofalinab.Pl
set_option linter.unusedVariables false
theorem placeText_hit (B b : Nat) (v : Value) (ns : List Nm) (w0 w : World) (hI : Idx B b v ns w0 w) (s : ByteArray) (hs : s.size ≤ maxLen) (h2 : twiceTo ns ns.length = false) (j : Nat) (hj : textAt ns s j) :
    Calls Try.prog 9 #[.pointer (some ⟨b, 0, none⟩), .string s] w fun e w' => e = .returned (.tuple #[.int .i64 (j : Int), .bool true]) ∧ Below B w0 w' := by
  refine (placeOfText_any B b v ns w0 w hI s hs).mono ?_
  rintro e w' ⟨h, _, ⟨i, hi, rfl⟩ | ⟨h3, _⟩⟩
  · rw [one_text h2 hi hj]; exact ⟨rfl, h.1⟩
  · exact absurd hj (h3 j)
theorem placeText_miss (B b : Nat) (v : Value) (ns : List Nm) (w0 w : World) (hI : Idx B b v ns w0 w) (s : ByteArray) (hs : s.size ≤ maxLen) (hj : ∀ j, ¬ textAt ns s j) :
    Calls Try.prog 9 #[.pointer (some ⟨b, 0, none⟩), .string s] w fun e w' => e = .returned (.tuple #[.int .i64 0, .bool false]) ∧ Below B w0 w' := by
  refine (placeOfText_any B b v ns w0 w hI s hs).mono ?_
  rintro e w' ⟨h, _, ⟨i, hi, rfl⟩ | ⟨h3, rfl⟩⟩
  · exact absurd hi (hj i)
  · exact ⟨rfl, h.1⟩
theorem find_bad (v : Value) (ns : List Nm) (s : ByteArray) (w : World) (hN : Nms w v ns) (hm : ns.length ≤ maxLen) (r : Int) (hr : faultR ns = r) (h0 : r ≠ 0) :
    Calls Try.prog 5 #[v, .string s] w fun e w' => e = .returned (.tuple #[.int .i64 0, .int .i64 r]) ∧ Below w.heap.size w w' := by
  have HN : Hid (Nms w v ns) := hN
  have h0' : (r != 0) = true := bne_iff_ne.2 h0
  clear hN
  go_enter Try.func5, Try.ntmps5
  go_wp2_with (first | (go_at_call 8; (with_reducible refine (indexed_bad _ ns _ HN.out hm _ hr h0).mono ?_); rintro e w' ⟨rfl, hb⟩))
  go_ret2
  exact ⟨rfl, hb⟩
theorem find_hit (v : Value) (ns : List Nm) (s : ByteArray) (w : World) (hN : Nms w v ns) (hm : ns.length ≤ maxLen) (hs : s.size ≤ maxLen) (hr : faultR ns = 0) (j : Nat) (hj : textAt ns s j) (y : Int) (hy : (nm ns j).2 = y) :
    Calls Try.prog 5 #[v, .string s] w fun e w' => e = .returned (.tuple #[.int .i64 y, .int .i64 0]) ∧ Below w.heap.size w w' := by
  subst hy
  have HN : Hid (Nms w v ns) := hN
  have h2 := (fault_ok hr).2.2.2
  have hjl := hj.1
  have hln := (fault_ok hr).1
  obtain ⟨b0, off, cap, rfl, hbl, hc⟩ := hN.plain (by omega)
  have HC : Hid (w.cell? ⟨b0, off + j * 2 + 1, none⟩ = some (.int .i64 (nm ns j).2)) := (hc j hjl).2
  have HJ : Hid (textAt ns s j) := hj
  have H2 : Hid (twiceTo ns ns.length = false) := h2
  have hnot : ∀ (x : Bool) (w : World), (Op.unary .not (.bool x)).run Try.prog w = .ok (.bool (!x)) w := fun _ _ => rfl
  clear hN hj h2 hc
  have hj1 : (j : Int) < (ns.length : Int) := by omega
  go_enter Try.func5, Try.ntmps5
  go_wp2_with (first
    | (go_at_call 8; (with_reducible refine (indexed_ok _ ns _ HN.out hm hr).mono ?_); rintro e w' ⟨b, rfl, hI⟩; have HI : Hid (Idx w.heap.size b (.slice (some ⟨b0, off, none⟩) ns.length cap) ns w w') := hI; clear hI)
    | (go_at_call 9; (with_reducible refine (placeText_hit _ _ _ _ _ _ HI.out s hs H2.out j HJ.out).mono ?_); rintro e w' ⟨rfl, hb⟩; have hcell := (hb.cell (p := ⟨b0, off + j * 2 + 1, none⟩) hbl).trans HC.out))
  go_ret2
  exact ⟨rfl, hb⟩
theorem find_miss (v : Value) (ns : List Nm) (s : ByteArray) (w : World) (hN : Nms w v ns) (hm : ns.length ≤ maxLen) (hs : s.size ≤ maxLen) (hr : faultR ns = 0) (hj : ∀ j, ¬ textAt ns s j) :
    Calls Try.prog 5 #[v, .string s] w fun e w' => e = .returned (.tuple #[.int .i64 0, .int .i64 12]) ∧ Below w.heap.size w w' := by
  have HN : Hid (Nms w v ns) := hN
  have HJ : Hid (∀ j, ¬ textAt ns s j) := hj
  have hnot : ∀ (x : Bool) (w : World), (Op.unary .not (.bool x)).run Try.prog w = .ok (.bool (!x)) w := fun _ _ => rfl
  clear hN hj
  go_enter Try.func5, Try.ntmps5
  go_wp2_with (first
    | (go_at_call 8; (with_reducible refine (indexed_ok _ ns _ HN.out hm hr).mono ?_); rintro e w' ⟨b, rfl, hI⟩; have HI : Hid (Idx w.heap.size b v ns w w') := hI; clear hI)
    | (go_at_call 9; (with_reducible refine (placeText_miss _ _ _ _ _ _ HI.out s hs HJ.out).mono ?_); rintro e w' ⟨rfl, hb⟩))
  go_ret2
  exact ⟨rfl, hb⟩
end Go.Proofs.Ytljpbkkofalinab.Wt
