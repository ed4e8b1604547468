/- Machines as bytes: no machine has two (no program in sight). -/
import Derived.Test.YtbbjpdadickilaaDoorPlainPk
namespace Go.Proofs.YtbbjpdadickilaaDoor.Pl
set_option linter.unusedVariables false
set_option linter.unusedSimpArgs false
/-- Numbers that fit into their bytes. -/
def fitA (a : Ar) : Prop := (0 ≤ a.1 ∧ a.1 < 65536) ∧ (0 ≤ a.2.1 ∧ a.2.1 < 65536) ∧ (0 ≤ a.2.2.1 ∧ a.2.2.1 < 4294967296) ∧ (0 ≤ a.2.2.2 ∧ a.2.2.2 < 256)
def fitS (s : St) : Prop := (0 ≤ s.1 ∧ s.1 < 4294967296) ∧ s.2.length < 65536 ∧ ∀ a ∈ s.2, fitA a
theorem split2_inj {n m : Int} (hn : 0 ≤ n ∧ n < 65536) (hm : 0 ≤ m ∧ m < 65536) (h : splitL n 2 = splitL m 2) : n = m := by rw [← join_split2 hn.1 hn.2, h, join_split2 hm.1 hm.2]
theorem split4_inj {n m : Int} (hn : 0 ≤ n ∧ n < 4294967296) (hm : 0 ≤ m ∧ m < 4294967296) (h : splitL n 4 = splitL m 4) : n = m := by rw [← join_split4 hn.1 hn.2, h, join_split4 hm.1 hm.2]
theorem packA_inj {a b : Ar} (ha : fitA a) (hb : fitA b) (h : packA a = packA b) : a = b := by
  unfold packA at h
  obtain ⟨h1, h2⟩ := List.append_inj h (by simp [splitL_len])
  obtain ⟨h3, h4⟩ := List.append_inj h1 (by simp [splitL_len])
  obtain ⟨h5, h6⟩ := List.append_inj h3 (by simp [splitL_len])
  obtain ⟨a0, a1, a2, a3⟩ := a
  obtain ⟨b0, b1, b2, b3⟩ := b
  have e0 := split2_inj ha.1 hb.1 h5
  have e1 := split2_inj ha.2.1 hb.2.1 h6
  have e2 := split4_inj ha.2.2.1 hb.2.2.1 h4
  simp at h2 e0 e1 e2
  rw [e0, e1, e2, h2]
theorem arcs_inj : ∀ (l r : List Ar), (∀ a ∈ l, fitA a) → (∀ a ∈ r, fitA a) → l.length = r.length → l.flatMap packA = r.flatMap packA → l = r
  | [], [], _, _, _, _ => rfl
  | [], _ :: _, _, _, h, _ => by simp at h
  | _ :: _, [], _, _, h, _ => by simp at h
  | a :: l, b :: r, hl, hr, hn, h => by
    rw [List.flatMap_cons, List.flatMap_cons] at h
    obtain ⟨h1, h2⟩ := List.append_inj h (by rw [packA_len, packA_len])
    rw [packA_inj (hl a (by simp)) (hr b (by simp)) h1, arcs_inj l r (fun x hx => hl x (by simp [hx])) (fun x hx => hr x (by simp [hx])) (by simpa using hn) h2]
theorem packS_cut {s t : St} {x y : List Int} (hs : fitS s) (ht : fitS t) (h : packS s ++ x = packS t ++ y) : s = t ∧ x = y := by
  unfold packS at h
  simp only [List.append_assoc] at h
  obtain ⟨h1, h2⟩ := List.append_inj h (by simp [splitL_len])
  obtain ⟨h3, h4⟩ := List.append_inj h2 (by simp [splitL_len])
  have e1 := split4_inj hs.1 ht.1 h1
  have hs2 := hs.2.1
  have ht2 := ht.2.1
  have e2 := split2_inj (by omega) (by omega) h3
  have e3 : s.2.length = t.2.length := by omega
  obtain ⟨h5, h6⟩ := List.append_inj h4 (by rw [packAs_len, packAs_len, e3])
  have e4 := arcs_inj s.2 t.2 hs.2.2 ht.2.2 e3 h5
  exact ⟨Prod.ext e1 e4, h6⟩
theorem states_cut : ∀ (l r : List St) (x : List Int), (∀ s ∈ l, fitS s) → (∀ s ∈ r, fitS s) → l.length ≤ r.length → l.flatMap packS ++ x = r.flatMap packS → l = r.take l.length ∧ x = (r.drop l.length).flatMap packS
  | [], r, x, _, _, _, h => ⟨rfl, by simpa using h⟩
  | s :: l, [], x, _, _, hn, _ => by simp at hn
  | s :: l, t :: r, x, hl, hr, hn, h => by
    rw [List.flatMap_cons, List.flatMap_cons, List.append_assoc] at h
    obtain ⟨h1, h2⟩ := packS_cut (hl s (by simp)) (hr t (by simp)) h
    obtain ⟨h3, h4⟩ := states_cut l r x (fun y hy => hl y (by simp [hy])) (fun y hy => hr y (by simp [hy])) (by simpa using hn) h2
    refine ⟨?_, by simpa using h4⟩
    rw [h1, List.length_cons, List.take_succ_cons, ← h3]
theorem right_fit {m : Mc} (h : faultM m = 0) : ∀ s ∈ m.2, fitS s := by
  obtain ⟨z, l⟩ := m
  have h1 := right_size h
  intro s hs
  obtain ⟨j, hj, rfl⟩ := mem_el (show s ∈ l from hs)
  have h2 := right_st h hj
  have h3 := arcN_take hj
  have h4 := arcN_take_all l (j + 1)
  refine ⟨?_, by omega, fun a ha => ?_⟩
  · have h5 := h2.1
    simp only [finB, inB, Bool.or_eq_true, Bool.and_eq_true, decide_eq_true_eq] at h5
    omega
  · have h5 := List.all_eq_true.1 h2.2 a ha
    simp only [arcB, inB, Bool.and_eq_true, decide_eq_true_eq] at h5
    unfold fitA
    omega
/-- No machine that is right has another's bytes. -/
theorem packB_inj {m r : Mc} (hm : faultM m = 0) (hr : faultM r = 0) (h : packB m = packB r) : m = r := by
  unfold packB at h
  obtain ⟨h1, h2⟩ := List.append_inj h (by simp [packH])
  simp [packH] at h1
  have h3 := states_cut m.2 r.2 [] (right_fit hm) (right_fit hr) (by omega) (by rw [List.append_nil]; exact h2)
  have h4 : m.2 = r.2 := by
    rw [h3.1, List.take_of_length_le (by omega)]
  exact Prod.ext (by omega) h4
/-- The bytes but for the sum; the sum. -/
def bodyOf (l : List Int) : List Int := l.take (l.length - 2)
def sumOf (l : List Int) : Int := joinL (l.drop (l.length - 2))
/-- What is answered of bytes. -/
def UnpAns (l : List Int) (m : Mc) (ec : Int) : Prop :=
  if 8000 < l.length then ec = 1 ∧ m = (0, [])
  else if l.length < 5 then ec = 3 ∧ m = (0, [])
  else if crcN (bodyOf l) ≠ sumOf l then ec = 11 ∧ m = (0, [])
  else (ec = 0 ∧ faultM m = 0 ∧ packB m = bodyOf l) ∨ ((∀ r, faultM r = 0 → packB r ≠ bodyOf l) ∧ ec = 3 ∧ m = (0, []))
theorem UnpAns.one {l : List Int} {m r : Mc} {a b : Int} (h : UnpAns l m a) (g : UnpAns l r b) : m = r ∧ a = b := by
  unfold UnpAns at h g
  split at h
  · rename_i e; rw [if_pos e] at g; exact ⟨h.2.trans g.2.symm, h.1.trans g.1.symm⟩
  · rename_i e; rw [if_neg e] at g
    split at h
    · rename_i e; rw [if_pos e] at g; exact ⟨h.2.trans g.2.symm, h.1.trans g.1.symm⟩
    · rename_i e; rw [if_neg e] at g
      split at h
      · rename_i e; rw [if_pos e] at g; exact ⟨h.2.trans g.2.symm, h.1.trans g.1.symm⟩
      · rename_i e; rw [if_neg e] at g
        rcases h with ⟨h1, h2, h3⟩ | ⟨h1, h2, h3⟩ <;> rcases g with ⟨g1, g2, g3⟩ | ⟨g1, g2, g3⟩
        · exact ⟨packB_inj h2 g2 (h3.trans g3.symm), h1.trans g1.symm⟩
        · exact absurd h3 (g1 m h2)
        · exact absurd g3 (h1 r g2)
        · exact ⟨h3.trans g3.symm, h2.trans g2.symm⟩
/-- What was packed is unpacked. -/
theorem pack_body (m : Mc) : bodyOf (packM m) = packB m ∧ sumOf (packM m) = crcN (packB m) := by
  have hr := crcN_range (packB m)
  unfold bodyOf sumOf packM
  have e : (packB m ++ splitL (crcN (packB m)) 2).length - 2 = (packB m).length := by rw [List.length_append, splitL_len]; omega
  rw [e, List.take_left, List.drop_left, join_split2 hr.1 hr.2]
  exact ⟨rfl, rfl⟩
theorem UnpAns.back {m r : Mc} {ec : Int} (hf : faultM m = 0) (h : UnpAns (packM m) r ec) : r = m ∧ ec = 0 := by
  obtain ⟨h1, h2⟩ := pack_body m
  have h3 := pack_short hf
  have h4 := packM_len m
  have h5 := packB_len m
  unfold UnpAns at h
  rw [h1, h2, if_neg (by omega), if_neg (by omega), if_neg (by simp)] at h
  rcases h with ⟨g1, g2, g3⟩ | ⟨g1, _, _⟩
  · exact ⟨packB_inj g2 hf g3, g1⟩
  · exact absurd rfl (g1 m hf)
/-- What was unpacked is packed as it was. -/
theorem UnpAns.fixed {l : List Int} {m : Mc} (hl : bytesB l) (h : UnpAns l m 0) : faultM m = 0 ∧ packM m = l := by
  unfold UnpAns at h
  split at h
  · have := h.1; omega
  · split at h
    · have := h.1; omega
    · rename_i h5
      split at h
      · have := h.1; omega
      · rename_i hc
        rcases h with ⟨_, g2, g3⟩ | ⟨_, g2, _⟩
        · refine ⟨g2, ?_⟩
          have hc' : crcN (bodyOf l) = sumOf l := by simpa using hc
          unfold packM
          rw [g3, hc']
          unfold bodyOf sumOf
          obtain ⟨a, b, hab⟩ : ∃ a b, l.drop (l.length - 2) = [a, b] := by
            have hlen : (l.drop (l.length - 2)).length = 2 := by rw [List.length_drop]; omega
            match hq : l.drop (l.length - 2), hlen with
            | [a, b], _ => exact ⟨a, b, rfl⟩
          have ha := hl a (List.mem_of_mem_drop (by rw [hab]; simp))
          have hb := hl b (List.mem_of_mem_drop (by rw [hab]; simp))
          rw [hab, split_join2 ha hb, ← hab, List.take_append_drop]
        · omega
theorem UnpAns.err {l : List Int} {m : Mc} {ec : Int} (h : UnpAns l m ec) (h0 : ¬ ec = 0) : m = (0, []) := by
  unfold UnpAns at h
  split at h
  · exact h.2
  · split at h
    · exact h.2
    · split at h
      · exact h.2
      · rcases h with ⟨g1, _, _⟩ | ⟨_, _, g3⟩
        · exact absurd g1 h0
        · exact g3
end Go.Proofs.YtbbjpdadickilaaDoor.Pl
