/- What Of answers. -/
import Derived.Test.YtljpbkkofalinabIz
import Derived.Test.YtljpbkkofalinabShelf
namespace Go.Proofs.Ytljpbkkofalinab.Wt
open Go.ChangeShapes Go.WideShapes Go.ChangeAt Go.RowKit Go.Maps
open Go.Proofs.Ytljpbkkofalinab.Pl
set_option linter.unusedVariables false
theorem placeLab_hit (B b : Nat) (v : Value) (ns : List Nm) (w0 w : World) (hI : Idx B b v ns w0 w) (s : Int) (hs : (Lit.int .i64 s).wf = true) (h2 : twiceTo ns ns.length = false) (j : Nat) (hj : labAt ns s j) :
    Calls Try.prog 10 #[.pointer (some ⟨b, 0, none⟩), .int .i64 s] w fun e w' => e = .returned (.tuple #[.int .i64 (j : Int), .bool true]) ∧ Below B w0 w' := by
  refine (placeOfLabel_any B b v ns w0 w hI s hs).mono ?_
  rintro e w' ⟨h, _, ⟨i, hi, rfl⟩ | ⟨h3, _⟩⟩
  · rw [one_label h2 hi hj]; exact ⟨rfl, h.1⟩
  · exact absurd hj (h3 j)
theorem placeLab_miss (B b : Nat) (v : Value) (ns : List Nm) (w0 w : World) (hI : Idx B b v ns w0 w) (s : Int) (hs : (Lit.int .i64 s).wf = true) (hj : ∀ j, ¬ labAt ns s j) :
    Calls Try.prog 10 #[.pointer (some ⟨b, 0, none⟩), .int .i64 s] w fun e w' => e = .returned (.tuple #[.int .i64 0, .bool false]) ∧ Below B w0 w' := by
  refine (placeOfLabel_any B b v ns w0 w hI s hs).mono ?_
  rintro e w' ⟨h, _, ⟨i, hi, rfl⟩ | ⟨h3, rfl⟩⟩
  · exact absurd hi (hj i)
  · exact ⟨rfl, h.1⟩
theorem clone_str (s : ByteArray) (w : World) (h : s.size ≤ 281474976710656) :
    Calls Try.prog 11 #[.string s] w fun e w' => e = .returned (.string s) ∧ Below w.heap.size w w' := by
  go_enter Try.func11, Try.ntmps11
  go_wp2_with (first | (go_at_call 15; (with_reducible refine (Try.stringslite_Clone _ _ h).mono ?_); rintro e w' ⟨rfl, hb⟩))
  go_ret
  exact ⟨rfl, hb⟩
theorem of_bad (v : Value) (ns : List Nm) (s : Int) (w : World) (hN : Nms w v ns) (hm : ns.length ≤ maxLen) (r : Int) (hr : faultR ns = r) (h0 : r ≠ 0) :
    Calls Try.prog 6 #[v, .int .i64 s] w fun e w' => e = .returned (.tuple #[.string ByteArray.empty, .int .i64 r]) ∧ Below w.heap.size w w' := by
  have HN : Hid (Nms w v ns) := hN
  have h0' : (r != 0) = true := bne_iff_ne.2 h0
  clear hN
  go_enter Try.func6, Try.ntmps6
  go_wp2_with (first | (go_at_call 8; (with_reducible refine (indexed_bad _ ns _ HN.out hm _ hr h0).mono ?_); rintro e w' ⟨rfl, hb⟩))
  go_ret2
  exact ⟨rfl, hb⟩
theorem of_hit (v : Value) (ns : List Nm) (s : Int) (w : World) (hN : Nms w v ns) (hm : ns.length ≤ maxLen) (hs : (Lit.int .i64 s).wf = true) (hr : faultR ns = 0) (j : Nat) (hj : labAt ns s j) (y : ByteArray) (hy : (nm ns j).1 = y) :
    Calls Try.prog 6 #[v, .int .i64 s] w fun e w' => e = .returned (.tuple #[.string y, .int .i64 0]) ∧ Below w.heap.size w w' := by
  subst hy
  have HN : Hid (Nms w v ns) := hN
  have h2 := (fault_ok hr).2.2.2
  have hjl := hj.1
  have hln := (fault_ok hr).1
  obtain ⟨b0, off, cap, rfl, hbl, hc⟩ := hN.plain (by omega)
  have HC : Hid (w.cell? ⟨b0, off + j * 2, none⟩ = some (.string (nm ns j).1)) := (hc j hjl).1
  have HZ : Hid ((nm ns j).1.size ≤ 281474976710656) := by show _ ≤ _; have := text_at (fault_ok hr).2.2.1 hjl; omega
  have HJ : Hid (labAt ns s j) := hj
  have H2 : Hid (twiceTo ns ns.length = false) := h2
  have hnot : ∀ (x : Bool) (w : World), (Op.unary .not (.bool x)).run Try.prog w = .ok (.bool (!x)) w := fun _ _ => rfl
  clear hN hj h2 hc
  have hj1 : (j : Int) < (ns.length : Int) := by omega
  go_enter Try.func6, Try.ntmps6
  go_wp2_with (first
    | (go_at_call 8; (with_reducible refine (indexed_ok _ ns _ HN.out hm hr).mono ?_); rintro e w' ⟨b, rfl, hI⟩; have HI : Hid (Idx w.heap.size b (.slice (some ⟨b0, off, none⟩) ns.length cap) ns w w') := hI; clear hI)
    | (go_at_call 10; (with_reducible refine (placeLab_hit _ _ _ _ _ _ HI.out s hs H2.out j HJ.out).mono ?_); rintro e w1 ⟨rfl, hb⟩; have hcell := (hb.cell (p := ⟨b0, off + j * 2, none⟩) hbl).trans HC.out)
    | (go_at_call 11; (with_reducible refine (clone_str _ _ HZ.out).mono ?_); rintro e w2 ⟨rfl, hb2⟩))
  go_ret2
  exact ⟨rfl, hb.trans (hb2.mono hb.size)⟩
theorem of_miss (v : Value) (ns : List Nm) (s : Int) (w : World) (hN : Nms w v ns) (hm : ns.length ≤ maxLen) (hs : (Lit.int .i64 s).wf = true) (hr : faultR ns = 0) (hj : ∀ j, ¬ labAt ns s j) :
    Calls Try.prog 6 #[v, .int .i64 s] w fun e w' => e = .returned (.tuple #[.string ByteArray.empty, .int .i64 12]) ∧ Below w.heap.size w w' := by
  have HN : Hid (Nms w v ns) := hN
  have HJ : Hid (∀ j, ¬ labAt ns s j) := hj
  have hnot : ∀ (x : Bool) (w : World), (Op.unary .not (.bool x)).run Try.prog w = .ok (.bool (!x)) w := fun _ _ => rfl
  clear hN hj
  go_enter Try.func6, Try.ntmps6
  go_wp2_with (first
    | (go_at_call 8; (with_reducible refine (indexed_ok _ ns _ HN.out hm hr).mono ?_); rintro e w' ⟨b, rfl, hI⟩; have HI : Hid (Idx w.heap.size b v ns w w') := hI; clear hI)
    | (go_at_call 10; (with_reducible refine (placeLab_miss _ _ _ _ _ _ HI.out s hs HJ.out).mono ?_); rintro e w' ⟨rfl, hb⟩))
  go_ret2
  exact ⟨rfl, hb⟩
end Go.Proofs.Ytljpbkkofalinab.Wt
