/- The reference: a machine is read from its text, whatever text. -/
import Derived.Test.YthaefajpdncoeaaDoorPt
namespace Go.Proofs.YthaefajpdncoeaaDoor.Pl
theorem okRight8 {m : Mc} (h : faultM m = 0) : okM m := by
  obtain ⟨z, l⟩ := m
  have h1 := right_size h
  refine ⟨by simp only; omega, fun j hj => ?_⟩
  have h2 := arcN_take (l := l) (k := j) hj
  have h3 : arcN (l.take (j + 1)) ≤ arcN l := by
    conv => rhs; rw [← List.take_append_drop (j + 1) l, arcN_append]
    omega
  simp only
  omega
theorem ReadAns.ok {s : List UInt8} {m : Mc} {ec : Int} (h : ReadAns s m ec) : okM m := by
  have hz : okM (0, []) := ⟨by simp, fun j hj => absurd hj (by simp)⟩
  unfold ReadAns at h
  split at h
  · rw [h.2]; exact hz
  · cases hm : readM s with
    | none => rw [hm] at h; rw [h.2]; exact hz
    | some m' => rw [hm] at h; rw [h.2]; exact okRight8 (text_readM hm).1
theorem ReadAns.err {s : List UInt8} {m : Mc} {ec : Int} (h : ReadAns s m ec) (h0 : ¬ ec = 0) : m = (0, []) := by
  unfold ReadAns at h
  split at h
  · exact h.2
  · cases hm : readM s with
    | none => rw [hm] at h; exact h.2
    | some m' => rw [hm] at h; exact absurd h.1 h0
theorem ReadAns.fine {s : List UInt8} {m : Mc} (h : ReadAns s m 0) : faultM m = 0 ∧ textM m = s := by
  unfold ReadAns at h
  split at h
  · have := h.1; omega
  · cases hm : readM s with
    | none => rw [hm] at h; have := h.1; omega
    | some m' => rw [hm] at h; rw [h.2]; exact text_readM hm
theorem ReadAns.exists (s : List UInt8) : ∃ m ec, ReadAns s m ec := by
  by_cases h : 20000 < s.length
  · exact ⟨_, _, ReadAns.long h⟩
  · cases hm : readM s with
    | none => exact ⟨_, _, ReadAns.none h hm⟩
    | some m => exact ⟨_, _, ReadAns.some h hm⟩
theorem textS_back (s : ByteArray) : textS s.data.toList = s := by apply bytes_inj2; rfl
/-- What is shown is read. -/
theorem ReadAns.back {m r : Mc} {ec : Int} (hf : faultM m = 0) (hl : (textM m).length ≤ 20000) (h : ReadAns (textM m) r ec) : ec = 0 ∧ r = m := by
  unfold ReadAns at h
  rw [if_neg (by omega), readM_text hf] at h
  exact h
end Go.Proofs.YthaefajpdncoeaaDoor.Pl
namespace Go.Proofs.YthaefajpdncoeaaDoor.Wt
open Go.Proofs.YthaefajpdncoeaaDoor.Pl
theorem readR_any (s : ByteArray) (w : World) : Calls Tryd.prog 12 #[.string s] w fun e w' => RefRead s w e w' := by
  by_cases h : 20000 < s.size
  · exact readR_long s w h
  · exact readR_short s w h
end Go.Proofs.YthaefajpdncoeaaDoor.Wt
