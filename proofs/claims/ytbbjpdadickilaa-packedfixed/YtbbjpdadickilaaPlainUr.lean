/- Machines as bytes: what comes of it (no program in sight). -/
import Derived.Test.YtbbjpdadickilaaPlainUq
namespace Go.Proofs.Ytbbjpdadickilaa.Pl
set_option linter.unusedVariables false
set_option linter.unusedSimpArgs false
theorem UnpAns.ok {l : List Int} {m : Mc} {ec : Int} (h : UnpAns l m ec) : okM m := by
  have hz : okM (0, []) := ⟨by simp, fun j hj => absurd hj (by simp)⟩
  by_cases h0 : ec = 0
  · subst h0
    unfold UnpAns at h
    split at h
    · have := h.1; omega
    · split at h
      · have := h.1; omega
      · split at h
        · have := h.1; omega
        · rcases h with ⟨_, g2, _⟩ | ⟨_, g2, _⟩
          · obtain ⟨z, l⟩ := m
            have h1 := right_size g2
            refine ⟨by simp only; omega, fun j hj => ?_⟩
            have h2 := (right_fit g2 (el l j) (el_mem hj)).2.1
            simp only
            omega
          · omega
  · rw [h.err h0]; exact hz
theorem UnpAns.exists (l : List Int) : ∃ m ec, UnpAns l m ec := by
  unfold UnpAns
  by_cases h8 : 8000 < l.length
  · exact ⟨(0, []), 1, by rw [if_pos h8]; exact ⟨rfl, rfl⟩⟩
  · by_cases h5 : l.length < 5
    · exact ⟨(0, []), 3, by rw [if_neg h8, if_pos h5]; exact ⟨rfl, rfl⟩⟩
    · by_cases hc : crcN (bodyOf l) ≠ sumOf l
      · exact ⟨(0, []), 11, by rw [if_neg h8, if_neg h5, if_pos hc]; exact ⟨rfl, rfl⟩⟩
      · by_cases hr : ∃ r, faultM r = 0 ∧ packB r = bodyOf l
        · obtain ⟨r, h1, h2⟩ := hr
          exact ⟨r, 0, by rw [if_neg h8, if_neg h5, if_neg hc]; exact .inl ⟨rfl, h1, h2⟩⟩
        · exact ⟨(0, []), 3, by rw [if_neg h8, if_neg h5, if_neg hc]; exact .inr ⟨fun r h1 h2 => hr ⟨r, h1, h2⟩, rfl, rfl⟩⟩
theorem set_cut {l : List Int} {q : Nat} (h : q < l.length) (y : Int) : l = l.take q ++ el l q :: l.drop (q + 1) ∧ l.set q y = l.take q ++ y :: l.drop (q + 1) := by
  constructor
  · rw [el_get h, ← List.drop_eq_getElem_cons h, List.take_append_drop]
  · rw [List.set_eq_take_append_cons_drop, if_pos h]
/-- One changed byte is told. -/
theorem one_told {m : Mc} (hf : faultM m = 0) {q : Nat} (hq : q < (packM m).length) {y : Int} (hy : 0 ≤ y ∧ y < 256) (hne : y ≠ el (packM m) q) : crcN (bodyOf ((packM m).set q y)) ≠ sumOf ((packM m).set q y) := by
  obtain ⟨h1, h2⟩ := pack_body m
  have hbm := packM_bytes hf
  have hx := hbm _ (el_mem hq)
  have hl : (packM m).length = (packB m).length + 2 := by unfold packM; rw [List.length_append, splitL_len]
  have hr := crcN_range (packB m)
  by_cases hb : q < (packB m).length
  · have e1 : bodyOf ((packM m).set q y) = (packB m).set q y := by
      unfold bodyOf
      rw [List.length_set, hl, Nat.add_sub_cancel, List.take_set]
      congr 1
      unfold packM
      rw [List.take_left]
    have e2 : sumOf ((packM m).set q y) = crcN (packB m) := by
      rw [← h2]
      unfold sumOf
      rw [List.length_set, hl, Nat.add_sub_cancel, List.drop_set_of_lt hb]
    rw [e1, e2]
    obtain ⟨c1, c2⟩ := set_cut hb y
    have hxb : el (packM m) q = el (packB m) q := by unfold packM; rw [el_left hb]
    rw [hxb] at hne hx
    have := crc_changed ((packB m).take q) ((packB m).drop (q + 1)) hy hx hne
    rw [← c2, ← c1] at this
    exact this
  · have e1 : bodyOf ((packM m).set q y) = packB m := by
      rw [← h1]
      unfold bodyOf
      rw [List.length_set, hl, Nat.add_sub_cancel, List.take_set_of_le (by omega)]
    rw [e1]
    intro he
    have e2 : splitL (sumOf ((packM m).set q y)) 2 = ((packM m).set q y).drop (packB m).length := by
      unfold sumOf
      rw [List.length_set, hl, Nat.add_sub_cancel]
      refine split_seg2 ?_ (by rw [List.length_drop, List.length_set]; omega)
      intro x hxm
      have hxm2 := List.mem_of_mem_drop hxm
      rcases List.mem_or_eq_of_mem_set hxm2 with g | g
      · exact hbm x g
      · rw [g]; exact hy
    have e3 : (packM m).drop (packB m).length = ((packM m).set q y).drop (packB m).length := by
      rw [← e2, ← he]
      unfold packM
      rw [List.drop_left]
    have e4 := congrArg (fun l => el l (q - (packB m).length)) e3
    have g1 : el ((packM m).drop (packB m).length) (q - (packB m).length) = el (packM m) q := by
      simp only [el, List.getElem?_drop]
      rw [show (packB m).length + (q - (packB m).length) = q from by omega]
    have g2 : el (((packM m).set q y).drop (packB m).length) (q - (packB m).length) = y := by
      simp only [el, List.getElem?_drop]
      rw [show (packB m).length + (q - (packB m).length) = q from by omega, List.getElem?_set_self hq]
      rfl
    simp only [g1, g2] at e4
    exact hne e4.symm
theorem UnpAns.told {m r : Mc} {ec : Int} (hf : faultM m = 0) {q : Nat} (hq : q < (packM m).length) {y : Int} (hy : 0 ≤ y ∧ y < 256) (hne : y ≠ el (packM m) q) (h : UnpAns ((packM m).set q y) r ec) : ec = 11 ∧ r = (0, []) := by
  have h1 := one_told hf hq hy hne
  have h2 := packM_len m
  have h3 := pack_short hf
  have h4 := packB_len m
  unfold UnpAns at h
  rw [List.length_set, if_neg (by omega), if_neg (by omega), if_pos h1] at h
  exact h
theorem packM_long (m : Mc) : 5 ≤ (packM m).length := by rw [packM_len]; omega
end Go.Proofs.Ytbbjpdadickilaa.Pl
