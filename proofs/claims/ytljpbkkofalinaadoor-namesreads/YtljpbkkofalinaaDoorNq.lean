/- The reference takes just the texts that are shown. -/
import Derived.Test.YtljpbkkofalinaaDoorNr
import Derived.Test.YtljpbkkofalinaaDoorRe
import Derived.Test.YtljpbkkofalinaaDoorPlainN
namespace Go.Proofs.YtljpbkkofalinaaDoor.Wt
open Go.ChangeShapes Go.WideShapes Go.ChangeAt Go.RowKit
open Go.Proofs.YtljpbkkofalinaaDoor.Pl
set_option linter.unusedVariables false
theorem cut_is {c : UInt8} {l : List UInt8} {o : List (List UInt8)} {r : List UInt8} (h : l = joinC c o ++ r) (ho : ∀ x ∈ o, ∀ b ∈ x, b ≠ c) (hr : ∀ b ∈ r, b ≠ c) : (cutTo c l l.length).1 = o ∧ cutEnd c l = r := by
  obtain ⟨h1, h2, h3⟩ := cut_all c l
  exact join_unique c _ o _ r h2 ho h3 hr (h1.symm.trans h)
theorem flat_join (ns : List Nm) : flatL ns = joinC 10 (ns.map bodyL) := by
  induction ns with
  | nil => rfl
  | cons p ns ih =>
    have e1 : flatL (p :: ns) = lineL p ++ flatL ns := by simp [flatL]
    have e2 : joinC 10 ((p :: ns).map bodyL) = (bodyL p ++ [10]) ++ joinC 10 (ns.map bodyL) := by simp [joinC]
    rw [e1, e2, lineL_body, ih]
theorem parts_body {p : Nm} (h1 : textB p.1 = true) (h2 : labB p.2 = true) : partsL (bodyL p) = [p.1.data.toList, Lib.itoa p.2] := by
  obtain ⟨u, _, _, e⟩ := itoa_lab h2
  have hj : bodyL p = joinC 32 [p.1.data.toList] ++ Lib.itoa p.2 := by simp [bodyL, joinC]
  obtain ⟨a, b⟩ := cut_is hj (fun x hx c hc => by simp at hx; subst hx; exact (text_bytes h1 c hc).2) (fun c hc => by
    rw [e] at hc
    have := dd_digits u c hc
    rintro rfl
    simp at this)
  unfold partsL
  rw [a, b]
  rfl
theorem num_lab {n : Int} (h : labB n = true) : numR (textS (Lib.itoa n)) 1000 = n := by
  obtain ⟨u, rfl, hu, e⟩ := itoa_lab h
  rw [e]
  obtain ⟨d1, d2, d3, d4⟩ := dec_digits u
  have hb := numB_dec u
  have hl := dec_len 3 u (by omega)
  unfold numR
  rw [show bl (textS (Lib.decDigits u)) = Lib.decDigits u from rfl, show (textS (Lib.decDigits u)).size = (Lib.decDigits u).length from rfl]
  rw [if_neg (by omega), if_neg (by rw [hb]; simp), d2, if_neg (by omega)]
theorem lab_num {d : List UInt8} {n : Int} (h : numR (textS d) 1000 = n) (hl : labB n = true) : d = Lib.itoa n := by
  unfold numR at h
  rw [show bl (textS d) = d from rfl] at h
  simp [labB] at hl
  split at h
  · omega
  · split at h
    · omega
    · rename_i hb
      have hb' : numB d = true := by
        rcases bool_cases (numB d) with g | g
        · exact g
        · exact absurd g hb
      split at h
      · omega
      · have e := dec_of_numB d hb'
        rw [h] at e
        rw [itoa_nat (by omega)]
        exact e.symm
theorem line_body {p : Nm} (h1 : textB p.1 = true) (h2 : labB p.2 = true) : lineN (bodyL p) = some p := by
  unfold lineN
  rw [parts_body h1 h2]
  simp only [List.length_cons, List.length_nil, Nat.zero_add, Nat.reduceAdd, if_true]
  show some (textS p.1.data.toList, numR (textS (Lib.itoa p.2)) 1000) = some p
  rw [textS_self, num_lab h2]
theorem line_all : ∀ ns : List Nm, (∀ p ∈ ns, textB p.1 = true ∧ labB p.2 = true) → (ns.map bodyL).filterMap lineN = ns ∧ ∀ x ∈ ns.map bodyL, lineN x ≠ none
  | [], _ => ⟨rfl, by simp⟩
  | p :: ns, h => by
    have hp := h p (by simp)
    obtain ⟨a, b⟩ := line_all ns (fun q hq => h q (by simp [hq]))
    refine ⟨?_, ?_⟩
    · rw [List.map_cons, List.filterMap_cons, line_body hp.1 hp.2]
      simp only
      rw [a]
    · intro x hx
      rw [List.map_cons] at hx
      rcases List.mem_cons.1 hx with g | g
      · subst g; rw [line_body hp.1 hp.2]; simp
      · exact b x g
/-- What is shown is taken. -/
theorem ok_of_show {ns : List Nm} (h : faultR ns = 0) {s : ByteArray} (hs : showS ns = s) : OkR s ∧ (xsOf s).filterMap lineN = ns := by
  have hl : s.data.toList.length = s.size := by simp
  have hj : s.data.toList = joinC 10 (ns.map bodyL) ++ [] := by rw [← hs, show_flat, flat_join, List.append_nil]
  have hr := right_each h
  obtain ⟨a, b⟩ := cut_is hj (fun x hx c hc => by
    obtain ⟨p, hp, e⟩ := List.mem_map.1 hx
    subst e
    exact body_bytes (hr p hp).1 (hr p hp).2 c hc) (by simp)
  rw [hl] at a
  obtain ⟨c, d⟩ := line_all ns hr
  have hx : xsOf s = ns.map bodyL := a
  have he : (cutTo 10 s.data.toList s.size).2 = s.size := by
    have hle := cutTo_le 10 s.data.toList s.size
    unfold cutEnd at b
    rw [hl] at b
    have := congrArg List.length b
    rw [List.length_drop, hl] at this
    simp at this
    omega
  have hn := (fault_ok h).1
  exact ⟨⟨he, by rw [hx, List.length_map]; exact hn, by rw [hx]; exact d, by rw [hx, c]; exact h⟩, by rw [hx, c]⟩
theorem line_back {x : List UInt8} {q : Nm} (h : lineN x = some q) (hl : labB q.2 = true) : x = bodyL q := by
  obtain ⟨h1, h2, h3⟩ := line_some h
  obtain ⟨y0, y1, hy⟩ := two_of h1
  rw [hy] at h2 h3
  have e1 : y1 = Lib.itoa q.2 := lab_num h3 hl
  have e0 : q.1.data.toList = y0 := by rw [h2]; rfl
  obtain ⟨c1, _, _⟩ := cut_all 32 x
  unfold partsL at hy
  have hlen := congrArg List.length hy
  rw [List.length_append] at hlen
  simp at hlen
  obtain ⟨o0, ho⟩ : ∃ o0, (cutTo 32 x x.length).1 = [o0] := by
    match hh : (cutTo 32 x x.length).1, hlen with
    | [o0], _ => exact ⟨o0, rfl⟩
  rw [ho] at hy c1
  simp at hy
  rw [c1, hy.1, hy.2, e1, ← e0]
  simp [joinC, bodyL]
theorem lines_back : ∀ (xs : List (List UInt8)), (∀ x ∈ xs, lineN x ≠ none) → (∀ p ∈ xs.filterMap lineN, labB p.2 = true) → xs = (xs.filterMap lineN).map bodyL
  | [], _, _ => rfl
  | x :: xs, h, hl => by
    cases hq : lineN x with
    | none => exact absurd hq (h x (by simp))
    | some q =>
      have e : (x :: xs).filterMap lineN = q :: xs.filterMap lineN := by rw [List.filterMap_cons, hq]
      rw [e] at hl ⊢
      rw [List.map_cons, ← lines_back xs (fun y hy => h y (by simp [hy])) (fun p hp => hl p (by simp [hp])), ← line_back hq (hl q (by simp))]
/-- What is taken is shown so. -/
theorem show_of_ok {s : ByteArray} (h : OkR s) : showS ((xsOf s).filterMap lineN) = s := by
  obtain ⟨h1, h2, h3, h4⟩ := h
  have hl : s.data.toList.length = s.size := by simp
  have hr := right_each h4
  have hx := lines_back (xsOf s) h3 (fun p hp => (hr p hp).2)
  obtain ⟨c1, _, _⟩ := cut_all 10 s.data.toList
  have he : cutEnd 10 s.data.toList = [] := by
    unfold cutEnd
    rw [hl, h1, ← hl]
    exact List.drop_length
  rw [he, List.append_nil, hl] at c1
  apply bytes_inj2
  rw [show_flat, flat_join, ← hx]
  exact c1.symm
end Go.Proofs.YtljpbkkofalinaaDoor.Wt
