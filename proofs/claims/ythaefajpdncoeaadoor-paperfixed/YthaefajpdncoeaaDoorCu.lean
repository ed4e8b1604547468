/- strings.Cut at one byte. -/
import Derived.Test.YthaefajpdncoeaaDoorShelf
import Derived.Test.YthaefajpdncoeaaDoorPlainC
import Derived.ProofKit
import Derived.OpenShut
import Derived.Below
import Derived.Handy
import Derived.BigQuiet
import Derived.Deep.QuietTactic
import Derived.WalkSmall
namespace Go.Proofs.YthaefajpdncoeaaDoor.Wt
open Go.ChangeShapes Go.WideShapes Go.ChangeAt Go.RowKit
open Go.Proofs.YthaefajpdncoeaaDoor.Pl
set_option linter.unusedVariables false
theorem ext_take (s : ByteArray) (k : Nat) : s.extract 0 k = textS (s.data.toList.take k) := by
  apply bytes_inj2
  simp [textS, ByteArray.data_extract]
theorem ext_drop (s : ByteArray) (k : Nat) : s.extract k s.size = textS (s.data.toList.drop k) := by
  apply bytes_inj2
  have e : s.size = s.data.size := rfl
  rw [e]
  simp [textS, ByteArray.data_extract]
  rw [List.take_of_length_le (by simp)]
theorem textS_self (s : ByteArray) : textS s.data.toList = s := by
  apply bytes_inj2
  simp [textS]
theorem cutIn_any (s : ByteArray) (c : UInt8) (w : World) (hs : s.size ≤ 1000000) :
    Calls Tryd.prog 55 #[.string s, .string ⟨#[c]⟩] w fun e w' => e = .returned (.tuple #[.string (textS (bef c s.data.toList)), .string (textS (aft c s.data.toList)), .bool (fnd c s.data.toList)]) ∧ ∃ n, w' = w.drewN n := by
  have hl : s.data.toList.length = s.size := by simp
  rcases idx_cases c s.data.toList with ⟨h1, h2, h3, h4⟩ | ⟨h1, k, h2, h3, h4, h5⟩
  · have HQ : Hid (Lib.indexByte s.data.toList c = -1) := h2
    have HE : Hid ((.tuple #[.string s, .string ⟨#[]⟩, .bool false] : Value) = .tuple #[.string (textS (bef c s.data.toList)), .string (textS (aft c s.data.toList)), .bool (fnd c s.data.toList)]) := by
      show _ = _; rw [h1, h3, h4, textS_self]; rfl
    clear h1 h2 h3 h4
    go_enter Tryd.func55, Tryd.ntmps55
    go_wp2_with (first | (go_at_call 64; (refine (Tryd.stringslite_Index_one _ c _).mono ?_); rw [HQ.out]; rintro e w' ⟨rfl, rfl⟩))
    go_returns
    exact ⟨congrArg Ending.returned HE.out, 0, rfl⟩
  · have HQ : Hid (Lib.indexByte s.data.toList c = (k : Int)) := h2
    have HE : Hid ((.tuple #[.string (s.extract 0 k), .string (s.extract (k + 1) s.size), .bool true] : Value) = .tuple #[.string (textS (bef c s.data.toList)), .string (textS (aft c s.data.toList)), .bool (fnd c s.data.toList)]) := by
      show _ = _; rw [h1, h4, h5, ext_take, ext_drop]
    have hk0 : (0 : Int) ≤ (k : Int) := by omega
    have hk1 : k < s.size := by omega
    have hk2 : (k : Int) + 1 ≤ (s.size : Int) := by omega
    clear h1 h2 h3 h4 h5
    go_enter Tryd.func55, Tryd.ntmps55
    go_wp2_with (first | (go_at_call 64; (refine (Tryd.stringslite_Index_one _ c _).mono ?_); rw [HQ.out]; rintro e w' ⟨rfl, rfl⟩))
    go_quiet (fail)
    go_wp2
    go_returns
    exact ⟨congrArg Ending.returned HE.out, _, rfl⟩
theorem cut_any (s : ByteArray) (c : UInt8) (w : World) (hs : s.size ≤ 1000000) (x y : ByteArray) (b : Bool) (hx : textS (bef c s.data.toList) = x) (hy : textS (aft c s.data.toList) = y) (hb : fnd c s.data.toList = b) :
    Calls Tryd.prog 40 #[.string s, .string ⟨#[c]⟩] w fun e w' => e = .returned (.tuple #[.string x, .string y, .bool b]) ∧ ∃ n, w' = w.drewN n := by
  have HC : Hid (Calls Tryd.prog 55 #[.string s, .string ⟨#[c]⟩] w fun e w' => e = .returned (.tuple #[.string x, .string y, .bool b]) ∧ ∃ n, w' = w.drewN n) := by
    have h := cutIn_any s c w hs; rw [hx, hy, hb] at h; exact h
  clear hx hy hb
  go_enter Tryd.func40, Tryd.ntmps40
  go_wp2_with (first | (go_at_call 55; (with_reducible refine HC.out.mono ?_); rintro e w' ⟨rfl, hn⟩))
  go_returns
  exact ⟨rfl, hn⟩
end Go.Proofs.YthaefajpdncoeaaDoor.Wt
