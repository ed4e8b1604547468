/- Which texts may be names: what isText of the program answers. -/
import Derived.Test.YtljpbkkofalinaaDoorRows
import Derived.Test.YtljpbkkofalinaaDoorPlainM
import Derived.WalkKit
import Derived.ProofKit
import Derived.OpenShut
import Derived.Below
import Derived.Handy
import Derived.Laws.RangeAny
import Derived.LoopTactic
import Derived.WalkSmall
namespace Go.Proofs.YtljpbkkofalinaaDoor.Wt
open Go.ChangeShapes Go.WideShapes Go.ChangeAt Go.RowKit
open Go.Proofs.YtljpbkkofalinaaDoor.Pl
set_option linter.unusedVariables false
theorem decode_good {s : ByteArray} {k : Nat} (h : k < s.size) (hg : goodN (byteAt s k) k) : Utf8.decode s k = (byteAt s k, 1) := by
  have e := byteAt_lt h
  rw [e] at hg
  rw [e]
  exact decode_ascii s k h (by unfold goodN at hg; omega)
theorem decode_bad {s : ByteArray} {k : Nat} (h : k < s.size) (hg : badN (byteAt s k) k) : badN (Utf8.decode s k).1 k := by
  have e := byteAt_lt h
  by_cases ha : (s[k]'h).toNat < 128
  · rw [decode_ascii s k h ha]; rw [e] at hg; exact hg
  · have := decode_high s k h (by omega); unfold badN; omega
theorem isText_some (s : ByteArray) (w : World) (h1 : 1 ≤ s.size) (h2 : s.size ≤ 12) :
    Calls Tryd.prog 35 #[.string s] w fun e w' => e = .returned (.bool (textB s)) ∧ Below w.heap.size w w' := by
  have hn1 : ¬ (s.size : Int) < 1 := by omega
  have hn2 : ¬ (12 : Int) < (s.size : Int) := by omega
  have hnot : ∀ (x : Bool) (w : World), (Op.unary .not (.bool x)).run Tryd.prog w = .ok (.bool (!x)) w := fun _ _ => rfl
  go_enter Tryd.func35, Tryd.ntmps35
  go_wp2
  go_loopw [3] (fun _ w' => ∃ pos : Nat, w' = w.iter s pos ∧ pos ≤ s.size ∧ Hid (okTo s pos = true)) (fun _ w' => s.size - w'.iterPos w.heap.size)
  case atStart => exact ⟨0, rfl, Nat.zero_le _, rfl⟩
  case round =>
    obtain ⟨k, rfl, hk, hok⟩ := hrel
    by_cases hp : k < s.size
    · rcases bool_cases (okAt s k) with ho | ho
      · have hd := decode_good hp (ok_good ho)
        have hg := ok_good ho
        have HO : Hid (okTo s (k + 1) = true) := by show _ = _; rw [okTo_succ, hok.out, ho]; rfl
        have hnx : ∀ ty, (Instr.next (.pointer (some ⟨w.heap.size, 0, none⟩)) true ty).run Tryd.prog (w.iter s k) = .ok (.tuple #[.bool true, .int .i64 k, .int .i32 (byteAt s k : Int)]) (w.iter s (k + 1)) := fun ty => by
          rw [run_next_any w s k ty hp, hd]
        clear hd ho hok
        generalize (byteAt s k : Int) = c at hg hnx
        rcases hg with ⟨g1, g2, g3⟩ | rfl | ⟨g1, g2⟩
        · have g4 : (0 : Int) < (k : Int) := by omega
          have g5 : ¬ (97 : Int) ≤ c := by omega
          have g6 : (c == 95) = false := beq_eq_false_iff_ne.2 (by omega)
          go_wp2
          go_roundw
          case rel => exact ⟨k + 1, rfl, by omega, HO⟩
          case measure => simp; omega
        · go_wp2
          go_roundw
          case rel => exact ⟨k + 1, rfl, by omega, HO⟩
          case measure => simp; omega
        · have g5 : ¬ c ≤ (57 : Int) := by omega
          have g4 : (48 : Int) ≤ c := by omega
          go_wp2
          go_roundw
          case rel => exact ⟨k + 1, rfl, by omega, HO⟩
          case measure => simp; omega
      · have hb := decode_bad hp (ok_bad ho)
        have HQ : Hid (textB s = false) := textB_false (okTo_false hp ho)
        have hnx : ∀ ty, (Instr.next (.pointer (some ⟨w.heap.size, 0, none⟩)) true ty).run Tryd.prog (w.iter s k) = _ := fun ty => run_next_any w s k ty hp
        generalize (Utf8.decode s k).2 = d at hnx
        generalize (((Utf8.decode s k).1 : Nat) : Int) = c at hb hnx
        clear ho hok
        rcases hb with g1 | ⟨g1, g2, rfl⟩ | ⟨g1, g2⟩ | rfl | g1
        · have g2 : ¬ (48 : Int) ≤ c := by omega
          have g5 : ¬ (97 : Int) ≤ c := by omega
          have g6 : (c == 95) = false := beq_eq_false_iff_ne.2 (by omega)
          go_wp2
          go_ret
          exact ⟨ret_bool HQ.out.symm, (Below.refl _ _).alloc (Nat.le_refl _) _⟩
        · have g5 : ¬ (97 : Int) ≤ c := by omega
          have g6 : (c == 95) = false := beq_eq_false_iff_ne.2 (by omega)
          go_wp2
          go_ret
          exact ⟨ret_bool HQ.out.symm, (Below.refl _ _).alloc (Nat.le_refl _) _⟩
        · have g3 : (48 : Int) ≤ c := by omega
          have g4 : ¬ c ≤ (57 : Int) := by omega
          have g5 : ¬ (97 : Int) ≤ c := by omega
          have g6 : (c == 95) = false := beq_eq_false_iff_ne.2 (by omega)
          go_wp2
          go_ret
          exact ⟨ret_bool HQ.out.symm, (Below.refl _ _).alloc (Nat.le_refl _) _⟩
        · go_wp2
          go_ret
          exact ⟨ret_bool HQ.out.symm, (Below.refl _ _).alloc (Nat.le_refl _) _⟩
        · have g3 : (48 : Int) ≤ c := by omega
          have g4 : ¬ c ≤ (57 : Int) := by omega
          have g5 : (97 : Int) ≤ c := by omega
          have g7 : ¬ c ≤ (122 : Int) := by omega
          have g6 : (c == 95) = false := beq_eq_false_iff_ne.2 (by omega)
          go_wp2
          go_ret
          exact ⟨ret_bool HQ.out.symm, (Below.refl _ _).alloc (Nat.le_refl _) _⟩
    · have hnx : ∀ ty, (Instr.next (.pointer (some ⟨w.heap.size, 0, none⟩)) true ty).run Tryd.prog (w.iter s k) = _ := fun ty => run_next_end w s k ty hp
      have hke : k = s.size := by omega
      have HQ : Hid (textB s = true) := textB_true h1 h2 (by rw [← hke]; exact hok.out)
      clear hke
      go_wp2
      go_ret
      exact ⟨ret_bool HQ.out.symm, (Below.refl _ _).alloc (Nat.le_refl _) _⟩
theorem isText_any (s : ByteArray) (w : World) (r : Bool) (hr : textB s = r) :
    Calls Tryd.prog 35 #[.string s] w fun e w' => e = .returned (.bool r) ∧ Below w.heap.size w w' := by
  subst hr
  by_cases h1 : s.size < 1
  · have HQ : Hid (textB s = false) := textB_none h1
    have h1' : (s.size : Int) < 1 := by omega
    go_enter Tryd.func35, Tryd.ntmps35
    go_wp2
    go_ret
    exact ⟨ret_bool HQ.out.symm, Below.refl _ _⟩
  · by_cases h2 : 12 < s.size
    · have HQ : Hid (textB s = false) := textB_long h2
      have h1' : ¬ (s.size : Int) < 1 := by omega
      have h2' : (12 : Int) < (s.size : Int) := by omega
      go_enter Tryd.func35, Tryd.ntmps35
      go_wp2
      go_ret
      exact ⟨ret_bool HQ.out.symm, Below.refl _ _⟩
    · exact isText_some s w (by omega) (by omega)
end Go.Proofs.YtljpbkkofalinaaDoor.Wt
