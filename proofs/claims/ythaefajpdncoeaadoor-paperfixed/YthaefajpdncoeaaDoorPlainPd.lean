/- How the reference reads a machine's text, line by line; it reads just what is shown of a right machine (no program in sight). -/
import Derived.Test.YthaefajpdncoeaaDoorPlainPb
namespace Go.Proofs.YthaefajpdncoeaaDoor.Pl
/-- The word at place k. -/
def wd (p : List (List UInt8)) (k : Nat) : List UInt8 := p[k]?.getD []
def numI (w : List UInt8) (most : Int) : Int := numR (textS w) most
theorem bl_text (w : List UInt8) : bl (textS w) = w := rfl
theorem text_size (w : List UInt8) : (textS w).size = w.length := rfl
theorem text_list (w : List UInt8) : (textS w).toList = w := by rw [ByteArray.toList_eq]; rfl
theorem dec_len10 {n : Int} (h1 : n ≤ 1000000000) : (decT n).length ≤ 10 := dec_len 9 n.toNat (by omega)
theorem numI_dec {n most : Int} (h0 : 0 ≤ n) (h1 : n ≤ most) (hm : most ≤ 1000000000) : numI (decT n) most = n := by
  have hl := dec_len10 (n := n) (by omega)
  unfold numI numR
  rw [text_size, bl_text, if_neg (by omega)]
  have hv : numV (decT n) = n := by
    have := (dec_digits n.toNat).2.1
    unfold decT
    rw [this]; omega
  have hb : numB (decT n) = true := numB_dec _
  rw [if_neg (by rw [hb]; simp), hv, if_neg (by omega)]
theorem numI_back {w : List UInt8} {most : Int} (h0 : 0 ≤ numI w most) (h1 : numI w most ≤ most) : decT (numI w most) = w := by
  unfold numI numR at *
  rw [text_size, bl_text] at *
  split at h0
  · omega
  · rename_i hl
    rw [if_neg hl] at h1
    split at h0
    · omega
    · rename_i hb
      rw [if_neg hb] at h1
      have hb' : numB w = true := by cases e : numB w with | true => rfl | false => exact absurd e hb
      split at h0
      · rename_i hm
        rw [if_pos hm] at h1; omega
      · rename_i hm
        rw [if_neg hl, if_neg hb, if_neg hm]
        exact dec_of_numB w hb'
theorem finR_back {w : List UInt8} (h : (readR (textS w)).2 = 0) : finT (readR (textS w)).1 = w := by
  unfold readR at *
  rw [text_size, bl_text, text_list] at *
  split
  · rename_i e
    have e' : w = wInf := by simpa [wInf] using e
    rw [e']; rfl
  · rename_i e
    rw [if_neg e] at h
    split
    · rename_i hl; rw [if_pos hl] at h; simp at h
    · rename_i hl
      rw [if_neg hl] at h
      split
      · rename_i hb; rw [if_pos hb] at h; simp at h
      · rename_i hb
        rw [if_neg hb] at h
        have hb' : numB w = true := by cases e : numB w with | true => rfl | false => exact absurd e hb
        split
        · rename_i hm; rw [if_pos hm] at h; simp at h
        · rename_i hm
          unfold finT
          rw [if_neg (by simp only; omega)]
          exact dec_of_numB w hb'
theorem finR_fin {f : Int} (h : finB f = true) : readR (textS (finT f)) = (f, 0) := by
  unfold readR
  rw [text_size, bl_text, text_list]
  by_cases e : f = 1000000001
  · subst e; rw [if_pos (by decide)]
  · simp [finB, inB, e] at h
    have e1 : finT f = decT f := by unfold finT; rw [if_neg e]
    have hl := dec_len10 (n := f) (by omega)
    have hv : numV (decT f) = f := by
      have := (dec_digits f.toNat).2.1
      unfold decT
      rw [this]; omega
    have hb : numB (decT f) = true := numB_dec _
    rw [e1, if_neg (by
      have := dec_ne (n := f) (w := [105, 110, 102]) (c := 105) (by simp) (by decide)
      simpa using this), if_neg (by omega), if_neg (by rw [hb]; simp), hv, if_neg (by omega)]
/-- The first line; another line. -/
def headR (p : List (List UInt8)) : Option Int := if p.length = 2 ∧ wd p 0 = wStart then (if wd p 1 = [45] then some (-1) else if numI (wd p 1) 60 < 0 then none else some (numI (wd p 1) 60)) else none
def arcR (p : List (List UInt8)) : Option Ar := if numI (wd p 1) 60 < 0 ∨ numI (wd p 2) 1000 < 0 ∨ numI (wd p 3) 1000 < 0 ∨ numI (wd p 4) 1000000000 < 0 then none else some (numI (wd p 2) 1000, numI (wd p 3) 1000, numI (wd p 4) 1000000000, numI (wd p 1) 60)
def lineR (l : List St) (p : List (List UInt8)) : Option (List St) :=
  if wd p 0 = wState ∧ p.length = 2 then (if (readR (textS (wd p 1))).2 = 0 then some (l ++ [((readR (textS (wd p 1))).1, [])]) else none)
  else if wd p 0 = wArc ∧ p.length = 5 ∧ l ≠ [] then (arcR p).map (addArc l) else none
def foldR (o : Option (List St)) (p : List (List UInt8)) : Option (List St) := o.bind fun l => lineR l p
/-- What the reference has of these lines. -/
def readF : List (List (List UInt8)) → Option Mc
  | [] => some (0, [])
  | p :: rest => (headR p).bind fun z => (rest.foldl foldR (some [])).map fun l => (z, l)
theorem readF_cons (p : List (List UInt8)) (rest : List (List (List UInt8))) : readF (p :: rest) = (headR p).bind fun z => (rest.foldl foldR (some [])).map fun l => (z, l) := rfl
theorem readF_one (p : List (List UInt8)) : readF [p] = (headR p).map fun z => (z, []) := by
  rw [readF_cons]
  cases headR p <;> rfl
theorem readF_snoc {ps : List (List (List UInt8))} (hp : ps ≠ []) (p : List (List UInt8)) : readF (ps ++ [p]) = (readF ps).bind fun m => (lineR m.2 p).map fun l => (m.1, l) := by
  cases ps with
  | nil => exact absurd rfl hp
  | cons q rest =>
    show ((headR q).bind fun z => ((rest ++ [p]).foldl foldR (some [])).map fun l => (z, l)) = _
    rw [List.foldl_append, readF_cons]
    cases headR q with
    | none => rfl
    | some z =>
      simp only [Option.bind_some, List.foldl_cons, List.foldl_nil]
      cases rest.foldl foldR (some []) with
      | none => rfl
      | some l => simp [foldR]
theorem foldR_none (ps : List (List (List UInt8))) : ps.foldl foldR none = none := by
  induction ps with
  | nil => rfl
  | cons p ps ih => exact ih
theorem readF_none {ps : List (List (List UInt8))} (h : readF ps = none) (qs : List (List (List UInt8))) : readF (ps ++ qs) = none := by
  cases ps with
  | nil => simp [readF] at h
  | cons q rest =>
    show ((headR q).bind fun z => ((rest ++ qs).foldl foldR (some [])).map fun l => (z, l)) = none
    rw [readF_cons] at h
    cases hq : headR q with
    | none => rfl
    | some z =>
      rw [hq] at h
      simp only [Option.bind_some, Option.map_eq_none_iff] at h ⊢
      rw [List.foldl_append, h, foldR_none]
/-- Numbers in range. -/
def RngL (n : Nat) (l : List St) : Prop := ∀ s ∈ l, ∀ a ∈ s.2, arcB n a = true
theorem lineR_back {n : Nat} (hn : n ≤ 60) {l r : List St} {p : List (List UInt8)} (h : lineR l p = some r) (hr : RngL n r) : r.flatMap partsS = l.flatMap partsS ++ [p] ∧ RngL n l := by
  unfold lineR at h
  split at h
  · rename_i e
    split at h
    · rename_i e2
      simp only [Option.some.injEq] at h
      subst h
      refine ⟨?_, fun s hs => hr s (by simp [hs])⟩
      have hp : p = [wState, wd p 1] := by
        match p, e with
        | [a, b], e => have := e.1; simp [wd] at this; simp [wd, this]
      rw [List.flatMap_append]
      congr 1
      rw [hp]
      simp only [List.flatMap_cons, List.flatMap_nil, partsS, List.map_nil, List.append_nil]
      rw [show wd [wState, wd p 1] 1 = wd p 1 from rfl, finR_back e2]
    · simp at h
  · split at h
    · rename_i e
      cases ha : arcR p with
      | none => rw [ha] at h; simp at h
      | some c =>
        rw [ha] at h
        simp only [Option.map_some, Option.some.injEq] at h
        subst h
        obtain ⟨t, s, rfl⟩ := snoc_of e.2.2
        rw [addArc_last] at hr ⊢
        have hc := hr (s.1, s.2 ++ [c]) (by simp) c (by simp)
        unfold arcR at ha
        split at ha
        · simp at ha
        · rename_i hneg
          simp only [Option.some.injEq] at ha
          subst ha
          simp only [arcB, inB, Bool.and_eq_true, decide_eq_true_eq] at hc
          refine ⟨?_, fun x hx => ?_⟩
          · rw [parts_snoc]
            congr 1
            have hp : p = [wArc, wd p 1, wd p 2, wd p 3, wd p 4] := by
              match p, e with
              | [a, b, c, d, f], e => have := e.1; simp [wd] at this; simp [wd, this]
            simp only [partsA]
            rw [numI_back (by omega) (by omega), numI_back (by omega) (by omega), numI_back (by omega) (by omega), numI_back (by omega) (by omega), ← hp]
          · rcases List.mem_append.1 hx with hx | hx
            · exact hr x (by simp [hx])
            · simp only [List.mem_singleton] at hx
              subst hx
              exact fun b hb => hr _ (List.mem_append_right _ (List.mem_singleton.2 rfl)) b (by simp [hb])
    · simp at h
theorem foldR_back {n : Nat} (hn : n ≤ 60) : ∀ (ps : List (List (List UInt8))) (l r : List St), ps.foldl foldR (some l) = some r → RngL n r → r.flatMap partsS = l.flatMap partsS ++ ps ∧ RngL n l := by
  intro ps
  induction ps with
  | nil => intro l r h hr; simp at h; subst h; exact ⟨by simp, hr⟩
  | cons p ps ih =>
    intro l r h hr
    rw [List.foldl_cons] at h
    cases hl : lineR l p with
    | none =>
      have : foldR (some l) p = none := hl
      rw [this, foldR_none] at h; simp at h
    | some l1 =>
      have : foldR (some l) p = some l1 := hl
      rw [this] at h
      obtain ⟨h1, h2⟩ := ih l1 r h hr
      obtain ⟨h3, h4⟩ := lineR_back hn hl h2
      exact ⟨by rw [h1, h3]; simp, h4⟩
/-- What is read and right is shown as it was. -/
theorem readF_back {ps : List (List (List UInt8))} {m : Mc} (hp : ps ≠ []) (h : readF ps = some m) (hf : faultM m = 0) : partsM m = ps := by
  obtain ⟨z, l⟩ := m
  cases ps with
  | nil => exact absurd rfl hp
  | cons p rest =>
    rw [readF_cons] at h
    cases hh : headR p with
    | none => rw [hh] at h; simp at h
    | some z' =>
      rw [hh] at h
      simp only [Option.bind_some, Option.map_eq_some_iff, Prod.mk.injEq] at h
      obtain ⟨l', h1, rfl, rfl⟩ := h
      have hs := right_size hf
      have hz := (faultM_zero hf).2
      simp only [rangeB, Bool.and_eq_true, inB, decide_eq_true_eq] at hz
      have hb := (foldR_back hs.1 rest [] l' h1 (fun s hs2 a ha => by
        obtain ⟨j, hj, rfl⟩ := mem_el hs2
        exact List.all_eq_true.1 (right_st hf hj).2 a ha)).1
      unfold partsM
      rw [hb]
      simp only [List.flatMap_nil, List.nil_append]
      congr 1
      unfold headR at hh
      split at hh
      · rename_i e
        have hpp : p = [wStart, wd p 1] := by
          match p, e with
          | [a, b], e => have := e.2; simp [wd] at this; simp [wd, this]
        split at hh
        · rename_i e2
          simp only [Option.some.injEq] at hh
          subst hh
          rw [hpp]
          simp [startT, wd]
          exact e2.symm
        · split at hh
          · simp at hh
          · rename_i hneg
            simp only [Option.some.injEq] at hh
            subst hh
            unfold startT
            rw [if_neg hneg, numI_back (by omega) (by omega), ← hpp]
      · simp at hh
theorem lineR_state (l : List St) {f : Int} (h : finB f = true) : lineR l [wState, finT f] = some (l ++ [(f, [])]) := by
  unfold lineR
  rw [if_pos ⟨rfl, rfl⟩, show wd [wState, finT f] 1 = finT f from rfl, finR_fin h]
  simp
theorem lineR_arc (l : List St) (s : St) {n : Nat} {a : Ar} (hn : n ≤ 60) (h : arcB n a = true) : lineR (l ++ [s]) (partsA a) = some (l ++ [(s.1, s.2 ++ [a])]) := by
  simp only [arcB, inB, Bool.and_eq_true, decide_eq_true_eq] at h
  unfold lineR
  rw [if_neg (by rintro ⟨_, e⟩; simp [partsA] at e), if_pos ⟨rfl, rfl, by simp⟩]
  have h1 : wd (partsA a) 1 = decT a.2.2.2 := rfl
  have h2 : wd (partsA a) 2 = decT a.1 := rfl
  have h3 : wd (partsA a) 3 = decT a.2.1 := rfl
  have h4 : wd (partsA a) 4 = decT a.2.2.1 := rfl
  unfold arcR
  rw [h1, h2, h3, h4, numI_dec (by omega) (by omega) (by omega), numI_dec (by omega) (by omega) (by omega), numI_dec (by omega) (by omega) (by omega), numI_dec (by omega) (by omega) (by omega), if_neg (by omega)]
  simp only [Option.map_some]
  rw [addArc_last]
theorem arcsR_read (l : List St) (s : St) {n : Nat} (hn : n ≤ 60) : ∀ ar : List Ar, (∀ a ∈ ar, arcB n a = true) → (ar.map partsA).foldl foldR (some (l ++ [s])) = some (l ++ [(s.1, s.2 ++ ar)]) := by
  intro ar
  induction ar generalizing s with
  | nil => intro _; simp
  | cons a ar ih =>
    intro h
    have h1 : foldR (some (l ++ [s])) (partsA a) = some (l ++ [(s.1, s.2 ++ [a])]) := lineR_arc l s hn (h a (by simp))
    rw [List.map_cons, List.foldl_cons, h1, ih (s.1, s.2 ++ [a]) (fun b hb => h b (by simp [hb]))]
    simp
theorem statesR_read {n : Nat} (hn : n ≤ 60) : ∀ (r l : List St), (∀ s ∈ r, finB s.1 = true ∧ ∀ a ∈ s.2, arcB n a = true) → (r.flatMap partsS).foldl foldR (some l) = some (l ++ r) := by
  intro r
  induction r with
  | nil => intro l _; simp
  | cons s r ih =>
    intro l h
    have h1 := h s (by simp)
    rw [List.flatMap_cons, List.foldl_append]
    have h2 : foldR (some l) [wState, finT s.1] = some (l ++ [(s.1, [])]) := lineR_state l h1.1
    show (r.flatMap partsS).foldl foldR ((s.2.map partsA).foldl foldR (foldR (some l) [wState, finT s.1])) = _
    rw [h2, arcsR_read l (s.1, []) hn s.2 h1.2, ih _ (fun t ht => h t (by simp [ht]))]
    simp
/-- What is shown is read. -/
theorem readF_shown {m : Mc} (h : faultM m = 0) : readF (partsM m) = some m := by
  obtain ⟨z, l⟩ := m
  have h1 := right_size h
  have h2 := (faultM_zero h).2
  simp only [rangeB, Bool.and_eq_true, inB, decide_eq_true_eq] at h2
  show ((headR [wStart, startT z]).bind fun z => ((l.flatMap partsS).foldl foldR (some [])).map fun l => (z, l)) = _
  rw [statesR_read h1.1 l [] (fun s hs => by
    obtain ⟨j, hj, rfl⟩ := mem_el hs
    have h3 := right_st h hj
    exact ⟨h3.1, fun a ha => List.all_eq_true.1 h3.2 a ha⟩)]
  have hh : headR [wStart, startT z] = some z := by
    unfold headR
    rw [if_pos ⟨rfl, rfl⟩, show wd [wStart, startT z] 1 = startT z from rfl]
    unfold startT
    by_cases e : z < 0
    · rw [if_pos e, if_pos rfl]; congr 1; omega
    · rw [if_neg e, if_neg (dec_ne (c := 45) (by simp) (by decide)), numI_dec (by omega) (by omega) (by omega), if_neg e]
  rw [hh]
  simp
/-- What is answered of a text. -/
def readM (s : List UInt8) : Option Mc := if cutEnd 10 s = [] ∧ (cutTo 10 s s.length).1 ≠ [] then (readF ((cutTo 10 s s.length).1.map wordsL)).bind fun m => if faultM m = 0 then some m else none else none
theorem readM_text {m : Mc} (h : faultM m = 0) : readM (textM m) = some m := by
  obtain ⟨h1, h2, h3⟩ := cut_all 10 (textM m)
  have hc := parts_clean m
  obtain ⟨h5, h6⟩ := join_unique 10 _ ((partsM m).map lineP) _ [] h2 (fun x hx => by
    obtain ⟨p, hp, rfl⟩ := List.mem_map.1 hx
    exact line_clean (fun x hx b hb => ((hc p hp).2 x hx b hb).2)) h3 (by simp) (h1.symm.trans (by simp [textM]))
  unfold readM
  rw [if_pos ⟨h6, by rw [h5]; simp [partsM]⟩, h5, List.map_map]
  have : (partsM m).map (wordsL ∘ lineP) = partsM m := by
    conv => rhs; rw [← List.map_id (partsM m)]
    refine List.map_congr_left fun p hp => ?_
    exact words_line (hc p hp).1 (fun x hx b hb => ((hc p hp).2 x hx b hb).1)
  rw [this, readF_shown h]
  simp [h]
theorem text_readM {s : List UInt8} {m : Mc} (h : readM s = some m) : faultM m = 0 ∧ textM m = s := by
  unfold readM at h
  split at h
  · rename_i e
    cases hf : readF ((cutTo 10 s s.length).1.map wordsL) with
    | none => rw [hf] at h; simp at h
    | some m' =>
      rw [hf] at h
      simp only [Option.bind_some] at h
      split at h
      · rename_i h0
        simp only [Option.some.injEq] at h
        subst h
        refine ⟨h0, ?_⟩
        have hb := readF_back (by simpa using e.2) hf h0
        obtain ⟨h1, _, _⟩ := cut_all 10 s
        rw [e.1, List.append_nil] at h1
        unfold textM
        rw [hb, List.map_map]
        have : (cutTo 10 s s.length).1.map (lineP ∘ wordsL) = (cutTo 10 s s.length).1 := by
          conv => rhs; rw [← List.map_id (cutTo 10 s s.length).1]
          exact List.map_congr_left fun l _ => line_words l
        rw [this]
        exact h1.symm
      · simp at h
  · simp at h
theorem readM_iff {s : List UInt8} {m : Mc} : readM s = some m ↔ faultM m = 0 ∧ textM m = s := ⟨text_readM, fun h => by rw [← h.2]; exact readM_text h.1⟩
end Go.Proofs.YthaefajpdncoeaaDoor.Pl
