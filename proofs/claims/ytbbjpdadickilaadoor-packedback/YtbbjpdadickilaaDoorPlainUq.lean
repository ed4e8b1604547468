/- Machines as bytes: how they are read, state by state (no program in sight). -/
import Derived.Test.YtbbjpdadickilaaDoorPlainUp
namespace Go.Proofs.YtbbjpdadickilaaDoor.Pl
set_option linter.unusedVariables false
set_option linter.unusedSimpArgs false
/-- Some bytes from a place on. -/
def seg (l : List Int) (i k : Nat) : List Int := (l.drop i).take k
theorem seg_len {l : List Int} {i k : Nat} (h : i + k ≤ l.length) : (seg l i k).length = k := by unfold seg; rw [List.length_take, List.length_drop]; omega
theorem seg_bytes {l : List Int} (h : bytesB l) (i k : Nat) : bytesB (seg l i k) := bytes_take (bytes_drop h i) k
theorem take_seg (l : List Int) (i k : Nat) : l.take (i + k) = l.take i ++ seg l i k := List.take_add
theorem seg_take {l : List Int} {e i k : Nat} (h : i + k ≤ e) : seg (l.take e) i k = seg l i k := by
  unfold seg
  rw [List.drop_take, List.take_take, Nat.min_eq_left (by omega)]
theorem split_seg1 {x : List Int} (h : bytesB x) (hl : x.length = 1) : splitL (joinL x) 1 = x := by
  match x, hl with
  | [a], _ => exact split_join1 (h a (by simp))
theorem split_seg2 {x : List Int} (h : bytesB x) (hl : x.length = 2) : splitL (joinL x) 2 = x := by
  match x, hl with
  | [a, b], _ => exact split_join2 (h a (by simp)) (h b (by simp))
theorem split_seg4 {x : List Int} (h : bytesB x) (hl : x.length = 4) : splitL (joinL x) 4 = x := by
  match x, hl with
  | [a, b, c, d], _ => exact split_join4 (h a (by simp)) (h b (by simp)) (h c (by simp)) (h d (by simp))
theorem join_range1 {x : List Int} (h : bytesB x) (hl : x.length = 1) : 0 ≤ joinL x ∧ joinL x < 256 := by
  have := joinL_range x h
  rw [hl] at this
  exact this
theorem join_range2 {x : List Int} (h : bytesB x) (hl : x.length = 2) : 0 ≤ joinL x ∧ joinL x < 65536 := by
  have := joinL_range x h
  rw [hl] at this
  exact this
theorem join_range4 {x : List Int} (h : bytesB x) (hl : x.length = 4) : 0 ≤ joinL x ∧ joinL x < 4294967296 := by
  have := joinL_range x h
  rw [hl] at this
  exact this
/-- The states that were read stand in the first bytes. -/
def Prs (bd : List Int) (l : List St) (i : Nat) : Prop := 3 ≤ i ∧ i ≤ bd.length ∧ bd.take i = bd.take 3 ++ l.flatMap packS ∧ ∀ s ∈ l, fitS s
theorem Prs.start {bd : List Int} (h : 3 ≤ bd.length) : Prs bd [] 3 := ⟨Nat.le_refl _, h, by simp, by simp⟩
/-- .. and one more, with so many arcs of it. -/
def PrsA (bd : List Int) (l : List St) (f : Int) (many : Nat) (ar : List Ar) (i : Nat) : Prop :=
  3 ≤ i ∧ i + 9 * (many - ar.length) ≤ bd.length ∧ ar.length ≤ many ∧ bd.take i = bd.take 3 ++ l.flatMap packS ++ (splitL f 4 ++ splitL many 2 ++ ar.flatMap packA) ∧ (∀ s ∈ l, fitS s) ∧ (0 ≤ f ∧ f < 4294967296) ∧ many < 65536 ∧ ∀ a ∈ ar, fitA a
theorem PrsA.start {bd : List Int} {l : List St} {i many : Nat} (hb : bytesB bd) (h : Prs bd l i) (h6 : i + 6 ≤ bd.length) (hm : joinL (seg bd (i + 4) 2) = many) (h9 : i + 6 + 9 * many ≤ bd.length) :
    PrsA bd l (joinL (seg bd i 4)) many [] (i + 6) := by
  have r4 := join_range4 (seg_bytes hb i 4) (seg_len (by omega))
  have r2 := join_range2 (seg_bytes hb (i + 4) 2) (seg_len (by omega))
  refine ⟨by have := h.1; omega, by simpa using h9, by simp, ?_, h.2.2.2, r4, by omega, by simp⟩
  rw [show i + 6 = i + 4 + 2 from rfl, take_seg, take_seg, h.2.2.1, split_seg4 (seg_bytes hb i 4) (seg_len (by omega)), ← hm, split_seg2 (seg_bytes hb (i + 4) 2) (seg_len (by omega))]
  simp
theorem PrsA.step {bd : List Int} {l : List St} {f : Int} {many : Nat} {ar : List Ar} {i : Nat} (hb : bytesB bd) (h : PrsA bd l f many ar i) (hlt : ar.length < many) :
    PrsA bd l f many (ar ++ [(joinL (seg bd i 2), joinL (seg bd (i + 2) 2), joinL (seg bd (i + 4) 4), joinL (seg bd (i + 8) 1))]) (i + 9) := by
  obtain ⟨h1, h2, h3, h4, h5, h6, h7, h8⟩ := h
  have hi : i + 9 ≤ bd.length := by omega
  have r0 := join_range2 (seg_bytes hb i 2) (seg_len (by omega))
  have r1 := join_range2 (seg_bytes hb (i + 2) 2) (seg_len (by omega))
  have r2 := join_range4 (seg_bytes hb (i + 4) 4) (seg_len (by omega))
  have r3 := join_range1 (seg_bytes hb (i + 8) 1) (seg_len (by omega))
  refine ⟨by omega, by rw [List.length_append, List.length_singleton]; omega, by rw [List.length_append, List.length_singleton]; omega, ?_, h5, h6, h7, fun a ha => ?_⟩
  · have e3 : [joinL (seg bd (i + 8) 1)] = seg bd (i + 8) 1 := by
      have hl := seg_len (l := bd) (i := i + 8) (k := 1) (by omega)
      match hx : seg bd (i + 8) 1, hl with
      | [x], _ => show [256 * 0 + x] = [x]; congr 1; omega
    rw [show i + 9 = i + 2 + 2 + 4 + 1 from rfl, take_seg, take_seg, take_seg, take_seg, h4, List.flatMap_append]
    simp only [List.flatMap_cons, List.flatMap_nil, List.append_nil, packA]
    rw [split_seg2 (seg_bytes hb i 2) (seg_len (by omega)), split_seg2 (seg_bytes hb (i + 2) 2) (seg_len (by omega)), split_seg4 (seg_bytes hb (i + 4) 4) (seg_len (by omega)), e3]
    simp [Nat.add_assoc]
  · rcases List.mem_append.1 ha with g | g
    · exact h8 a g
    · simp at g; subst g; exact ⟨r0, r1, r2, r3⟩
theorem PrsA.done {bd : List Int} {l : List St} {f : Int} {many : Nat} {ar : List Ar} {i : Nat} (h : PrsA bd l f many ar i) (he : ar.length = many) : Prs bd (l ++ [(f, ar)]) i := by
  obtain ⟨h1, h2, h3, h4, h5, h6, h7, h8⟩ := h
  refine ⟨h1, by omega, ?_, fun s hs => ?_⟩
  · rw [h4, List.flatMap_append]
    simp [packS, he]
  · rcases List.mem_append.1 hs with g | g
    · exact h5 s g
    · simp at g; subst g; exact ⟨h6, by simp only; omega, h8⟩
theorem head_parts {bd : List Int} {r : Mc} (h : packB r = bd) : bd.take 3 = packH r ∧ el bd 0 = 84 ∧ el bd 1 = (r.2.length : Int) ∧ el bd 2 = r.1 + 1 ∧ 3 ≤ bd.length := by
  rw [← h]
  unfold packB
  refine ⟨?_, rfl, rfl, rfl, ?_⟩
  · rw [List.take_append_of_le_length (by simp [packH])]; rfl
  · simp [packH]
theorem prs_prefix {bd : List Int} {l : List St} {i : Nat} {r : Mc} (h : Prs bd l i) (hr : faultM r = 0) (hb : packB r = bd) (hle : l.length ≤ r.2.length) : l = r.2.take l.length ∧ bd.drop i = (r.2.drop l.length).flatMap packS := by
  obtain ⟨h1, h2, h3, h4⟩ := h
  have hp := (head_parts hb).1
  have e : bd.take i ++ bd.drop i = packH r ++ r.2.flatMap packS := by rw [List.take_append_drop]; exact hb.symm
  rw [h3, hp, List.append_assoc] at e
  exact states_cut l r.2 (bd.drop i) h4 (right_fit hr) hle (List.append_cancel_left e)
theorem rest_head {bd : List Int} {l : List St} {i : Nat} {r : Mc} (h : Prs bd l i) (hr : faultM r = 0) (hb : packB r = bd) (hlt : l.length < r.2.length) : ∃ y, bd.drop i = packS (el r.2 l.length) ++ y := by
  obtain ⟨_, h2⟩ := prs_prefix h hr hb (by omega)
  refine ⟨(r.2.drop (l.length + 1)).flatMap packS, ?_⟩
  rw [h2, List.drop_eq_getElem_cons hlt, List.flatMap_cons, el_get hlt]
/-- No room for a state's numbers: no machine. -/
theorem no_room {bd : List Int} {l : List St} {i : Nat} (h : Prs bd l i) (hq : (l.length : Int) < el bd 1) (h6 : bd.length < i + 6) : ∀ r, faultM r = 0 → packB r ≠ bd := by
  intro r hr hb
  have hp := head_parts hb
  obtain ⟨y, hy⟩ := rest_head h hr hb (by omega)
  have := congrArg List.length hy
  rw [List.length_append, packS_len, List.length_drop] at this
  have := h.2.1
  omega
/-- No room for its arcs: no machine. -/
theorem no_arcs {bd : List Int} {l : List St} {i many : Nat} (h : Prs bd l i) (hq : (l.length : Int) < el bd 1) (h6 : i + 6 ≤ bd.length) (hm : joinL (seg bd (i + 4) 2) = many) (h9 : bd.length < i + 6 + 9 * many) : ∀ r, faultM r = 0 → packB r ≠ bd := by
  intro r hr hb
  have hp := head_parts hb
  obtain ⟨y, hy⟩ := rest_head h hr hb (by omega)
  have hf := right_fit hr (el r.2 l.length) (el_mem (by omega))
  have hs : seg bd (i + 4) 2 = splitL (el r.2 l.length).2.length 2 := by
    unfold seg
    rw [← List.drop_drop, hy]
    unfold packS
    rw [List.append_assoc, List.append_assoc, List.drop_append_of_le_length (by simp [splitL_len]), List.drop_of_length_le (by simp [splitL_len])]
    rw [List.nil_append, List.take_append_of_le_length (by simp [splitL_len]), List.take_of_length_le (by simp [splitL_len])]
  have hf2 := hf.2.1
  rw [hs, join_split2 (by omega) (by omega)] at hm
  have := congrArg List.length hy
  rw [List.length_append, packS_len, List.length_drop] at this
  omega
/-- All states are read. -/
theorem all_read {bd : List Int} {l : List St} {i : Nat} (h : Prs bd l i) (hq : (l.length : Int) = el bd 1) : (∀ r, faultM r = 0 → packB r = bd → el bd 0 = 84 ∧ i = bd.length ∧ r = (el bd 2 - 1, l)) ∧ (el bd 0 = 84 → i = bd.length → 3 ≤ bd.length → packB (el bd 2 - 1, l) = bd) := by
  constructor
  · intro r hr hb
    have hp := head_parts hb
    obtain ⟨h1, h2⟩ := prs_prefix h hr hb (by omega)
    have hl : l = r.2 := by rw [h1, List.take_of_length_le (by omega)]
    rw [List.drop_of_length_le (l := r.2) (by omega)] at h2
    have h3 := congrArg List.length h2
    rw [List.length_drop] at h3
    simp at h3
    have := h.2.1
    refine ⟨hp.2.1, by omega, ?_⟩
    rw [hl]
    exact Prod.ext (by simp only; omega) rfl
  · intro h0 hi h3
    have h4 := h.2.2.1
    rw [hi, List.take_length] at h4
    unfold packB packH
    simp only
    rw [h4]
    congr 1
    match hx : bd, h3 with
    | a :: b :: c :: t, _ =>
      have e0 : el (a :: b :: c :: t) 0 = a := rfl
      have e1 : el (a :: b :: c :: t) 1 = b := rfl
      have e2 : el (a :: b :: c :: t) 2 = c := rfl
      subst hx
      rw [e0] at h0
      rw [e1] at hq
      rw [← h4, e2]
      show [84, (l.length : Int), c - 1 + 1] = [a, b, c]
      rw [h0, hq, show c - 1 + 1 = c from by omega]
end Go.Proofs.YtbbjpdadickilaaDoor.Pl
