/- The text of a machine, piece by piece (no program in sight). How the reference reads a machine's text, line by line; it reads just what is shown of a right machine (no program in sight). Machines as texts: what the program's Read makes of the lines (no program in sight). -/
import Derived.Test.YtbbjpdadickilaaDoorPlainPb
import Derived.Test.YtbbjpdadickilaaDoorPlainC
import Derived.Lib.AtoiAll
import Derived.Lib.SplitLaws
import Derived.Lib.IndexBytes
import Derived.Lib.Join
namespace Go.Proofs.YtbbjpdadickilaaDoor.Pl
/-- What is shown of a machine whose fault is r. -/
def shownT (m : Mc) (r : Int) : List UInt8 := if r = 0 then textM m else []
def arcT (a : Ar) : List UInt8 := lineP (partsA a) ++ [10]
def stT (f : Int) : List UInt8 := lineP [wState, finT f] ++ [10]
def headT (z : Int) : List UInt8 := lineP [wStart, startT z] ++ [10]
def txtS (s : St) : List UInt8 := stT s.1 ++ s.2.flatMap arcT
theorem textM_eq (m : Mc) : textM m = headT m.1 ++ m.2.flatMap txtS := by
  unfold textM partsM joinC
  rw [List.map_cons, List.flatMap_cons]
  congr 1
  induction m.2 with
  | nil => rfl
  | cons s l ih =>
    rw [List.flatMap_cons, List.map_append, List.flatMap_append, ih, List.flatMap_cons]
    congr 1
    unfold partsS txtS
    rw [List.map_cons, List.flatMap_cons, List.map_map]
    show stT s.1 ++ _ = _
    congr 1
    induction s.2 with
    | nil => rfl
    | cons a r ih2 => rw [List.map_cons, List.flatMap_cons, List.flatMap_cons, ih2]; rfl
theorem dec_short {n : Int} (h1 : n ≤ 1000000000) : (decT n).length ≤ 10 := dec_len 9 n.toNat (by omega)
theorem arcT_eq (a : Ar) : arcT a = [97, 114, 99, 32] ++ decT a.2.2.2 ++ [32] ++ decT a.1 ++ [32] ++ decT a.2.1 ++ [32] ++ decT a.2.2.1 ++ [10] := by
  simp [arcT, partsA, lineP, wArc]
theorem stT_eq (f : Int) : stT f = [115, 116, 97, 116, 101, 32] ++ finT f ++ [10] := by simp [stT, lineP, wState]
theorem headT_eq (z : Int) : headT z = [115, 116, 97, 114, 116, 32] ++ startT z ++ [10] := by simp [headT, lineP, wStart]
theorem arcT_short {n : Nat} {a : Ar} (hn : n ≤ 60) (h : arcB n a = true) : (arcT a).length ≤ 40 := by
  simp only [arcB, inB, Bool.and_eq_true, decide_eq_true_eq] at h
  have h1 := dec_short (n := a.2.2.2) (by omega)
  have h2 : (decT a.1).length ≤ 4 := dec_len 3 a.1.toNat (by omega)
  have h3 : (decT a.2.1).length ≤ 4 := dec_len 3 a.2.1.toNat (by omega)
  have h4 := dec_short (n := a.2.2.1) (by omega)
  rw [arcT_eq]
  simp only [List.length_append, List.length_cons, List.length_nil]
  omega
theorem fin_short {f : Int} (h : finB f = true) : (finT f).length ≤ 10 := by
  unfold finT
  by_cases e : f = 1000000001
  · rw [if_pos e]; simp [wInf]
  · rw [if_neg e]
    simp [finB, inB, e] at h
    exact dec_short (by omega)
theorem stT_short {f : Int} (h : finB f = true) : (stT f).length ≤ 20 := by
  have := fin_short h
  rw [stT_eq]
  simp only [List.length_append, List.length_cons, List.length_nil]
  omega
theorem headT_short {z : Int} (h : z ≤ 60) : (headT z).length ≤ 20 := by
  rw [headT_eq]
  unfold startT
  have := dec_short (n := z) (by omega)
  split <;> simp only [List.length_append, List.length_cons, List.length_nil] <;> omega
theorem arcs_short {n : Nat} (hn : n ≤ 60) {ar : List Ar} (h : ∀ a ∈ ar, arcB n a = true) : (ar.flatMap arcT).length ≤ 40 * ar.length := by
  induction ar with
  | nil => simp
  | cons a r ih =>
    rw [List.flatMap_cons, List.length_append, List.length_cons]
    have h1 := arcT_short hn (h a (by simp))
    have h2 := ih (fun b hb => h b (by simp [hb]))
    omega
theorem states_short {n : Nat} (hn : n ≤ 60) {l : List St} (h : ∀ s ∈ l, finB s.1 = true ∧ ∀ a ∈ s.2, arcB n a = true) : (l.flatMap txtS).length ≤ 20 * l.length + 40 * arcN l := by
  induction l with
  | nil => simp [arcN]
  | cons s r ih =>
    rw [List.flatMap_cons, List.length_append, List.length_cons]
    have h0 := h s (by simp)
    have h1 := stT_short h0.1
    have h2 := arcs_short hn h0.2
    have h3 := ih (fun t ht => h t (by simp [ht]))
    have h4 : (txtS s).length = (stT s.1).length + (s.2.flatMap arcT).length := by simp [txtS]
    rw [h4]
    simp only [arcN]
    omega
theorem states_take {l : List St} {k : Nat} (h : k < l.length) : (l.take (k + 1)).flatMap txtS = (l.take k).flatMap txtS ++ txtS (el l k) := by rw [take_el h]; simp
theorem arcs_take {ar : List Ar} {k : Nat} (h : k < ar.length) : (ar.take (k + 1)).flatMap arcT = (ar.take k).flatMap arcT ++ arcT (el ar k) := by rw [take_el h]; simp
end Go.Proofs.YtbbjpdadickilaaDoor.Pl
namespace Go.Proofs.YtbbjpdadickilaaDoor.Pl
/-- The word at place k. -/
def wd (p : List (List UInt8)) (k : Nat) : List UInt8 := p[k]?.getD []
def numI (w : List UInt8) (most : Int) : Int := numR (textS w) most
theorem bl_text (w : List UInt8) : bl (textS w) = w := rfl
theorem text_size (w : List UInt8) : (textS w).size = w.length := rfl
theorem text_list (w : List UInt8) : (textS w).toList = w := by rw [ByteArray.toList_eq]; rfl
theorem dec_len10 {n : Int} (h1 : n ≤ 1000000000) : (decT n).length ≤ 10 := dec_len 9 n.toNat (by omega)
theorem numI_dec {n most : Int} (h0 : 0 ≤ n) (h1 : n ≤ most) (hm : most ≤ 1000000000) : numI (decT n) most = n := by
  have hl := dec_len10 (n := n) (by omega)
  unfold numI numR
  rw [text_size, bl_text, if_neg (by omega)]
  have hv : numV (decT n) = n := by
    have := (dec_digits n.toNat).2.1
    unfold decT
    rw [this]; omega
  have hb : numB (decT n) = true := numB_dec _
  rw [if_neg (by rw [hb]; simp), hv, if_neg (by omega)]
theorem numI_back {w : List UInt8} {most : Int} (h0 : 0 ≤ numI w most) (h1 : numI w most ≤ most) : decT (numI w most) = w := by
  unfold numI numR at *
  rw [text_size, bl_text] at *
  split at h0
  · omega
  · rename_i hl
    rw [if_neg hl] at h1
    split at h0
    · omega
    · rename_i hb
      rw [if_neg hb] at h1
      have hb' : numB w = true := by cases e : numB w with | true => rfl | false => exact absurd e hb
      split at h0
      · rename_i hm
        rw [if_pos hm] at h1; omega
      · rename_i hm
        rw [if_neg hl, if_neg hb, if_neg hm]
        exact dec_of_numB w hb'
theorem finR_back {w : List UInt8} (h : (readR (textS w)).2 = 0) : finT (readR (textS w)).1 = w := by
  unfold readR at *
  rw [text_size, bl_text, text_list] at *
  split
  · rename_i e
    have e' : w = wInf := by simpa [wInf] using e
    rw [e']; rfl
  · rename_i e
    rw [if_neg e] at h
    split
    · rename_i hl; rw [if_pos hl] at h; simp at h
    · rename_i hl
      rw [if_neg hl] at h
      split
      · rename_i hb; rw [if_pos hb] at h; simp at h
      · rename_i hb
        rw [if_neg hb] at h
        have hb' : numB w = true := by cases e : numB w with | true => rfl | false => exact absurd e hb
        split
        · rename_i hm; rw [if_pos hm] at h; simp at h
        · rename_i hm
          unfold finT
          rw [if_neg (by simp only; omega)]
          exact dec_of_numB w hb'
theorem finR_fin {f : Int} (h : finB f = true) : readR (textS (finT f)) = (f, 0) := by
  unfold readR
  rw [text_size, bl_text, text_list]
  by_cases e : f = 1000000001
  · subst e; rw [if_pos (by decide)]
  · simp [finB, inB, e] at h
    have e1 : finT f = decT f := by unfold finT; rw [if_neg e]
    have hl := dec_len10 (n := f) (by omega)
    have hv : numV (decT f) = f := by
      have := (dec_digits f.toNat).2.1
      unfold decT
      rw [this]; omega
    have hb : numB (decT f) = true := numB_dec _
    rw [e1, if_neg (by
      have := dec_ne (n := f) (w := [105, 110, 102]) (c := 105) (by simp) (by decide)
      simpa using this), if_neg (by omega), if_neg (by rw [hb]; simp), hv, if_neg (by omega)]
/-- The first line; another line. -/
def headR (p : List (List UInt8)) : Option Int := if p.length = 2 ∧ wd p 0 = wStart then (if wd p 1 = [45] then some (-1) else if numI (wd p 1) 60 < 0 then none else some (numI (wd p 1) 60)) else none
def arcR (p : List (List UInt8)) : Option Ar := if numI (wd p 1) 60 < 0 ∨ numI (wd p 2) 1000 < 0 ∨ numI (wd p 3) 1000 < 0 ∨ numI (wd p 4) 1000000000 < 0 then none else some (numI (wd p 2) 1000, numI (wd p 3) 1000, numI (wd p 4) 1000000000, numI (wd p 1) 60)
def lineR (l : List St) (p : List (List UInt8)) : Option (List St) :=
  if wd p 0 = wState ∧ p.length = 2 then (if (readR (textS (wd p 1))).2 = 0 then some (l ++ [((readR (textS (wd p 1))).1, [])]) else none)
  else if wd p 0 = wArc ∧ p.length = 5 ∧ l ≠ [] then (arcR p).map (addArc l) else none
def foldR (o : Option (List St)) (p : List (List UInt8)) : Option (List St) := o.bind fun l => lineR l p
/-- What the reference has of these lines. -/
def readF : List (List (List UInt8)) → Option Mc
  | [] => some (0, [])
  | p :: rest => (headR p).bind fun z => (rest.foldl foldR (some [])).map fun l => (z, l)
theorem readF_cons (p : List (List UInt8)) (rest : List (List (List UInt8))) : readF (p :: rest) = (headR p).bind fun z => (rest.foldl foldR (some [])).map fun l => (z, l) := rfl
theorem readF_one (p : List (List UInt8)) : readF [p] = (headR p).map fun z => (z, []) := by
  rw [readF_cons]
  cases headR p <;> rfl
theorem readF_snoc {ps : List (List (List UInt8))} (hp : ps ≠ []) (p : List (List UInt8)) : readF (ps ++ [p]) = (readF ps).bind fun m => (lineR m.2 p).map fun l => (m.1, l) := by
  cases ps with
  | nil => exact absurd rfl hp
  | cons q rest =>
    show ((headR q).bind fun z => ((rest ++ [p]).foldl foldR (some [])).map fun l => (z, l)) = _
    rw [List.foldl_append, readF_cons]
    cases headR q with
    | none => rfl
    | some z =>
      simp only [Option.bind_some, List.foldl_cons, List.foldl_nil]
      cases rest.foldl foldR (some []) with
      | none => rfl
      | some l => simp [foldR]
theorem foldR_none (ps : List (List (List UInt8))) : ps.foldl foldR none = none := by
  induction ps with
  | nil => rfl
  | cons p ps ih => exact ih
theorem readF_none {ps : List (List (List UInt8))} (h : readF ps = none) (qs : List (List (List UInt8))) : readF (ps ++ qs) = none := by
  cases ps with
  | nil => simp [readF] at h
  | cons q rest =>
    show ((headR q).bind fun z => ((rest ++ qs).foldl foldR (some [])).map fun l => (z, l)) = none
    rw [readF_cons] at h
    cases hq : headR q with
    | none => rfl
    | some z =>
      rw [hq] at h
      simp only [Option.bind_some, Option.map_eq_none_iff] at h ⊢
      rw [List.foldl_append, h, foldR_none]
/-- Numbers in range. -/
def RngL (n : Nat) (l : List St) : Prop := ∀ s ∈ l, ∀ a ∈ s.2, arcB n a = true
theorem lineR_back {n : Nat} (hn : n ≤ 60) {l r : List St} {p : List (List UInt8)} (h : lineR l p = some r) (hr : RngL n r) : r.flatMap partsS = l.flatMap partsS ++ [p] ∧ RngL n l := by
  unfold lineR at h
  split at h
  · rename_i e
    split at h
    · rename_i e2
      simp only [Option.some.injEq] at h
      subst h
      refine ⟨?_, fun s hs => hr s (by simp [hs])⟩
      have hp : p = [wState, wd p 1] := by
        match p, e with
        | [a, b], e => have := e.1; simp [wd] at this; simp [wd, this]
      rw [List.flatMap_append]
      congr 1
      rw [hp]
      simp only [List.flatMap_cons, List.flatMap_nil, partsS, List.map_nil, List.append_nil]
      rw [show wd [wState, wd p 1] 1 = wd p 1 from rfl, finR_back e2]
    · simp at h
  · split at h
    · rename_i e
      cases ha : arcR p with
      | none => rw [ha] at h; simp at h
      | some c =>
        rw [ha] at h
        simp only [Option.map_some, Option.some.injEq] at h
        subst h
        obtain ⟨t, s, rfl⟩ := snoc_of e.2.2
        rw [addArc_last] at hr ⊢
        have hc := hr (s.1, s.2 ++ [c]) (by simp) c (by simp)
        unfold arcR at ha
        split at ha
        · simp at ha
        · rename_i hneg
          simp only [Option.some.injEq] at ha
          subst ha
          simp only [arcB, inB, Bool.and_eq_true, decide_eq_true_eq] at hc
          refine ⟨?_, fun x hx => ?_⟩
          · rw [parts_snoc]
            congr 1
            have hp : p = [wArc, wd p 1, wd p 2, wd p 3, wd p 4] := by
              match p, e with
              | [a, b, c, d, f], e => have := e.1; simp [wd] at this; simp [wd, this]
            simp only [partsA]
            rw [numI_back (by omega) (by omega), numI_back (by omega) (by omega), numI_back (by omega) (by omega), numI_back (by omega) (by omega), ← hp]
          · rcases List.mem_append.1 hx with hx | hx
            · exact hr x (by simp [hx])
            · simp only [List.mem_singleton] at hx
              subst hx
              exact fun b hb => hr _ (List.mem_append_right _ (List.mem_singleton.2 rfl)) b (by simp [hb])
    · simp at h
theorem foldR_back {n : Nat} (hn : n ≤ 60) : ∀ (ps : List (List (List UInt8))) (l r : List St), ps.foldl foldR (some l) = some r → RngL n r → r.flatMap partsS = l.flatMap partsS ++ ps ∧ RngL n l := by
  intro ps
  induction ps with
  | nil => intro l r h hr; simp at h; subst h; exact ⟨by simp, hr⟩
  | cons p ps ih =>
    intro l r h hr
    rw [List.foldl_cons] at h
    cases hl : lineR l p with
    | none =>
      have : foldR (some l) p = none := hl
      rw [this, foldR_none] at h; simp at h
    | some l1 =>
      have : foldR (some l) p = some l1 := hl
      rw [this] at h
      obtain ⟨h1, h2⟩ := ih l1 r h hr
      obtain ⟨h3, h4⟩ := lineR_back hn hl h2
      exact ⟨by rw [h1, h3]; simp, h4⟩
/-- What is read and right is shown as it was. -/
theorem readF_back {ps : List (List (List UInt8))} {m : Mc} (hp : ps ≠ []) (h : readF ps = some m) (hf : faultM m = 0) : partsM m = ps := by
  obtain ⟨z, l⟩ := m
  cases ps with
  | nil => exact absurd rfl hp
  | cons p rest =>
    rw [readF_cons] at h
    cases hh : headR p with
    | none => rw [hh] at h; simp at h
    | some z' =>
      rw [hh] at h
      simp only [Option.bind_some, Option.map_eq_some_iff, Prod.mk.injEq] at h
      obtain ⟨l', h1, rfl, rfl⟩ := h
      have hs := right_size hf
      have hz := (faultM_zero hf).2
      simp only [rangeB, Bool.and_eq_true, inB, decide_eq_true_eq] at hz
      have hb := (foldR_back hs.1 rest [] l' h1 (fun s hs2 a ha => by
        obtain ⟨j, hj, rfl⟩ := mem_el hs2
        exact List.all_eq_true.1 (right_st hf hj).2 a ha)).1
      unfold partsM
      rw [hb]
      simp only [List.flatMap_nil, List.nil_append]
      congr 1
      unfold headR at hh
      split at hh
      · rename_i e
        have hpp : p = [wStart, wd p 1] := by
          match p, e with
          | [a, b], e => have := e.2; simp [wd] at this; simp [wd, this]
        split at hh
        · rename_i e2
          simp only [Option.some.injEq] at hh
          subst hh
          rw [hpp]
          simp [startT, wd]
          exact e2.symm
        · split at hh
          · simp at hh
          · rename_i hneg
            simp only [Option.some.injEq] at hh
            subst hh
            unfold startT
            rw [if_neg hneg, numI_back (by omega) (by omega), ← hpp]
      · simp at hh
theorem lineR_state (l : List St) {f : Int} (h : finB f = true) : lineR l [wState, finT f] = some (l ++ [(f, [])]) := by
  unfold lineR
  rw [if_pos ⟨rfl, rfl⟩, show wd [wState, finT f] 1 = finT f from rfl, finR_fin h]
  simp
theorem lineR_arc (l : List St) (s : St) {n : Nat} {a : Ar} (hn : n ≤ 60) (h : arcB n a = true) : lineR (l ++ [s]) (partsA a) = some (l ++ [(s.1, s.2 ++ [a])]) := by
  simp only [arcB, inB, Bool.and_eq_true, decide_eq_true_eq] at h
  unfold lineR
  rw [if_neg (by rintro ⟨_, e⟩; simp [partsA] at e), if_pos ⟨rfl, rfl, by simp⟩]
  have h1 : wd (partsA a) 1 = decT a.2.2.2 := rfl
  have h2 : wd (partsA a) 2 = decT a.1 := rfl
  have h3 : wd (partsA a) 3 = decT a.2.1 := rfl
  have h4 : wd (partsA a) 4 = decT a.2.2.1 := rfl
  unfold arcR
  rw [h1, h2, h3, h4, numI_dec (by omega) (by omega) (by omega), numI_dec (by omega) (by omega) (by omega), numI_dec (by omega) (by omega) (by omega), numI_dec (by omega) (by omega) (by omega), if_neg (by omega)]
  simp only [Option.map_some]
  rw [addArc_last]
theorem arcsR_read (l : List St) (s : St) {n : Nat} (hn : n ≤ 60) : ∀ ar : List Ar, (∀ a ∈ ar, arcB n a = true) → (ar.map partsA).foldl foldR (some (l ++ [s])) = some (l ++ [(s.1, s.2 ++ ar)]) := by
  intro ar
  induction ar generalizing s with
  | nil => intro _; simp
  | cons a ar ih =>
    intro h
    have h1 : foldR (some (l ++ [s])) (partsA a) = some (l ++ [(s.1, s.2 ++ [a])]) := lineR_arc l s hn (h a (by simp))
    rw [List.map_cons, List.foldl_cons, h1, ih (s.1, s.2 ++ [a]) (fun b hb => h b (by simp [hb]))]
    simp
theorem statesR_read {n : Nat} (hn : n ≤ 60) : ∀ (r l : List St), (∀ s ∈ r, finB s.1 = true ∧ ∀ a ∈ s.2, arcB n a = true) → (r.flatMap partsS).foldl foldR (some l) = some (l ++ r) := by
  intro r
  induction r with
  | nil => intro l _; simp
  | cons s r ih =>
    intro l h
    have h1 := h s (by simp)
    rw [List.flatMap_cons, List.foldl_append]
    have h2 : foldR (some l) [wState, finT s.1] = some (l ++ [(s.1, [])]) := lineR_state l h1.1
    show (r.flatMap partsS).foldl foldR ((s.2.map partsA).foldl foldR (foldR (some l) [wState, finT s.1])) = _
    rw [h2, arcsR_read l (s.1, []) hn s.2 h1.2, ih _ (fun t ht => h t (by simp [ht]))]
    simp
/-- What is shown is read. -/
theorem readF_shown {m : Mc} (h : faultM m = 0) : readF (partsM m) = some m := by
  obtain ⟨z, l⟩ := m
  have h1 := right_size h
  have h2 := (faultM_zero h).2
  simp only [rangeB, Bool.and_eq_true, inB, decide_eq_true_eq] at h2
  show ((headR [wStart, startT z]).bind fun z => ((l.flatMap partsS).foldl foldR (some [])).map fun l => (z, l)) = _
  rw [statesR_read h1.1 l [] (fun s hs => by
    obtain ⟨j, hj, rfl⟩ := mem_el hs
    have h3 := right_st h hj
    exact ⟨h3.1, fun a ha => List.all_eq_true.1 h3.2 a ha⟩)]
  have hh : headR [wStart, startT z] = some z := by
    unfold headR
    rw [if_pos ⟨rfl, rfl⟩, show wd [wStart, startT z] 1 = startT z from rfl]
    unfold startT
    by_cases e : z < 0
    · rw [if_pos e, if_pos rfl]; congr 1; omega
    · rw [if_neg e, if_neg (dec_ne (c := 45) (by simp) (by decide)), numI_dec (by omega) (by omega) (by omega), if_neg e]
  rw [hh]
  simp
/-- What is answered of a text. -/
def readM (s : List UInt8) : Option Mc := if cutEnd 10 s = [] ∧ (cutTo 10 s s.length).1 ≠ [] then (readF ((cutTo 10 s s.length).1.map wordsL)).bind fun m => if faultM m = 0 then some m else none else none
theorem readM_text {m : Mc} (h : faultM m = 0) : readM (textM m) = some m := by
  obtain ⟨h1, h2, h3⟩ := cut_all 10 (textM m)
  have hc := parts_clean m
  obtain ⟨h5, h6⟩ := join_unique 10 _ ((partsM m).map lineP) _ [] h2 (fun x hx => by
    obtain ⟨p, hp, rfl⟩ := List.mem_map.1 hx
    exact line_clean (fun x hx b hb => ((hc p hp).2 x hx b hb).2)) h3 (by simp) (h1.symm.trans (by simp [textM]))
  unfold readM
  rw [if_pos ⟨h6, by rw [h5]; simp [partsM]⟩, h5, List.map_map]
  have : (partsM m).map (wordsL ∘ lineP) = partsM m := by
    conv => rhs; rw [← List.map_id (partsM m)]
    refine List.map_congr_left fun p hp => ?_
    exact words_line (hc p hp).1 (fun x hx b hb => ((hc p hp).2 x hx b hb).1)
  rw [this, readF_shown h]
  simp [h]
theorem text_readM {s : List UInt8} {m : Mc} (h : readM s = some m) : faultM m = 0 ∧ textM m = s := by
  unfold readM at h
  split at h
  · rename_i e
    cases hf : readF ((cutTo 10 s s.length).1.map wordsL) with
    | none => rw [hf] at h; simp at h
    | some m' =>
      rw [hf] at h
      simp only [Option.bind_some] at h
      split at h
      · rename_i h0
        simp only [Option.some.injEq] at h
        subst h
        refine ⟨h0, ?_⟩
        have hb := readF_back (by simpa using e.2) hf h0
        obtain ⟨h1, _, _⟩ := cut_all 10 s
        rw [e.1, List.append_nil] at h1
        unfold textM
        rw [hb, List.map_map]
        have : (cutTo 10 s s.length).1.map (lineP ∘ wordsL) = (cutTo 10 s s.length).1 := by
          conv => rhs; rw [← List.map_id (cutTo 10 s s.length).1]
          exact List.map_congr_left fun l _ => line_words l
        rw [this]
        exact h1.symm
      · simp at h
  · simp at h
theorem readM_iff {s : List UInt8} {m : Mc} : readM s = some m ↔ faultM m = 0 ∧ textM m = s := ⟨text_readM, fun h => by rw [← h.2]; exact readM_text h.1⟩
end Go.Proofs.YtbbjpdadickilaaDoor.Pl
namespace Go.Proofs.YtbbjpdadickilaaDoor.Pl
open Go
theorem pu_snoc2 : ∀ (l : List UInt8) (acc a : Nat) (c : UInt8), Lib.parseUint10 acc l = .ok a → a ≤ 1000000000000 → 48 ≤ c.toNat → c.toNat ≤ 57 → Lib.parseUint10 acc (l ++ [c]) = .ok (a * 10 + (c.toNat - 48))
  | [], acc, a, c, h, ha, h1, h2 => by
    simp only [Lib.parseUint10] at h
    injection h with h
    subst h
    simp only [List.nil_append, Lib.parseUint10]
    rw [if_pos ⟨h1, h2⟩, if_neg (by omega), if_neg (by omega)]
  | b :: r, acc, a, c, h, ha, h1, h2 => by
    simp only [Lib.parseUint10] at h
    simp only [List.cons_append, Lib.parseUint10]
    split at h
    · rename_i hb
      rw [if_pos hb]
      split at h
      · cases h
      · rename_i g1
        rw [if_neg g1]
        split at h
        · cases h
        · rename_i g2
          rw [if_neg g2]
          exact pu_snoc2 r _ a c h ha h1 h2
    · cases h
theorem pu_dec2 (u : Nat) : u ≤ 1000000000000 → Lib.parseUint10 0 (Lib.decDigits u) = .ok u := by
  induction u using Nat.strongRecOn with
  | _ u ih =>
    intro hu
    by_cases h : u < 10
    · rw [Lib.decDigits_one h]
      have e : (UInt8.ofNat (48 + u)).toNat = 48 + u := by simp; omega
      have := pu_snoc2 [] 0 0 (UInt8.ofNat (48 + u)) rfl (by omega) (by omega) (by omega)
      rw [e] at this
      simpa using this
    · rw [dd_step h]
      have e : (UInt8.ofNat (48 + u % 10)).toNat = 48 + u % 10 := by simp; omega
      have := pu_snoc2 (Lib.decDigits (u / 10)) 0 (u / 10) (UInt8.ofNat (48 + u % 10)) (ih (u / 10) (by omega) (by omega)) (by omega) (by omega) (by omega)
      rw [e] at this
      rw [this]
      congr 1
      omega
theorem atoi_dec2 {u : Nat} (hu : u ≤ 1000000000000) : Lib.atoiAll (Lib.decDigits u) = .ok (u : Int) := by
  have hd := dd_digits u
  have hp := pu_dec2 u hu
  cases hl : Lib.decDigits u with
  | nil =>
    have := congrArg List.length hl
    by_cases h : u < 10
    · rw [Lib.decDigits_one h] at this; simp at this
    · rw [dd_step h] at this; simp at this
  | cons c r =>
    have hc := hd c (by rw [hl]; simp)
    rw [hl] at hp
    have hm : Lib.parseMag (c :: r) = .ok u := by unfold Lib.parseMag; rw [if_neg (by simp)]; exact hp
    rw [Lib.atoiAll_plain c r (by omega) (by omega), hm]
    show Lib.signless (.ok u) = _
    unfold Lib.signless
    simp only
    rw [if_neg (by omega)]
/-- A number, as the program reads it. -/
def atO (w : List UInt8) : Option Int := match Lib.atoiAll w with | .ok v => some v | _ => none
theorem atO_dec {n : Int} (h0 : 0 ≤ n) (h1 : n ≤ 1000000000) : atO (decT n) = some n := by
  unfold atO decT
  rw [atoi_dec2 (by omega)]
  simp only
  congr 1
  omega
theorem atO_some {w : List UInt8} {v : Int} (h : atO w = some v) : Lib.atoiAll w = .ok v := by
  unfold atO at h
  split at h
  · rename_i u hu; simp at h; rw [hu, h]
  · simp at h
theorem atO_none {w : List UInt8} (h : atO w = none) : ∀ v, Lib.atoiAll w ≠ .ok v := by
  intro v hv
  unfold atO at h
  rw [hv] at h
  simp at h
def startQ (w : List UInt8) : Option Int := if w = [45] then some (-1) else atO w
def finQ (w : List UInt8) : Option Int := if (readR (textS w)).2 = 0 then some (readR (textS w)).1 else none
def arcQ (p : List (List UInt8)) : Option Ar := (atO (wd p 1)).bind fun t => (atO (wd p 2)).bind fun i => (atO (wd p 3)).bind fun o => (atO (wd p 4)).map fun x => (i, o, x, t)
/-- What a line adds. -/
def addP (m : Mc) (p : List (List UInt8)) : Option Mc :=
  if wd p 0 = wStart ∧ p.length = 2 then (startQ (wd p 1)).map fun z => (z, m.2)
  else if wd p 0 = wState ∧ p.length = 2 then (finQ (wd p 1)).map fun f => (m.1, m.2 ++ [(f, [])])
  else if wd p 0 = wArc ∧ p.length = 5 ∧ m.2 ≠ [] then (arcQ p).map fun a => (m.1, addArc m.2 a)
  else none
def addO (o : Option Mc) (p : List (List UInt8)) : Option Mc := o.bind fun m => addP m p
def readQ (ps : List (List (List UInt8))) : Option Mc := ps.foldl addO (some (0, []))
theorem readQ_snoc (ps : List (List (List UInt8))) (p : List (List UInt8)) : readQ (ps ++ [p]) = (readQ ps).bind fun m => addP m p := by
  unfold readQ
  rw [List.foldl_append]
  rfl
theorem addO_none (ps : List (List (List UInt8))) : ps.foldl addO none = none := by
  induction ps with
  | nil => rfl
  | cons p ps ih => rw [List.foldl_cons]; exact ih
theorem readQ_none {ps : List (List (List UInt8))} (h : readQ ps = none) (qs : List (List (List UInt8))) : readQ (ps ++ qs) = none := by
  unfold readQ at *
  rw [List.foldl_append, h]
  exact addO_none qs
theorem addP_start (m : Mc) {z : Int} (h0 : -1 ≤ z) (h1 : z ≤ 60) : addP m [wStart, startT z] = some (z, m.2) := by
  unfold addP
  rw [if_pos ⟨rfl, rfl⟩, show wd [wStart, startT z] 1 = startT z from rfl]
  unfold startQ startT
  by_cases e : z < 0
  · rw [if_pos e, if_pos rfl]; simp; omega
  · rw [if_neg e, if_neg (dec_ne (c := 45) (by simp) (by decide)), atO_dec (by omega) (by omega)]
    rfl
theorem addP_state (z : Int) (l : List St) {f : Int} (h : finB f = true) : addP (z, l) [wState, finT f] = some (z, l ++ [(f, [])]) := by
  unfold addP
  rw [if_neg (by rintro ⟨e, _⟩; rw [show wd [wState, finT f] 0 = wState from rfl] at e; revert e; decide), if_pos ⟨rfl, rfl⟩, show wd [wState, finT f] 1 = finT f from rfl]
  unfold finQ
  rw [finR_fin h]
  simp
theorem addP_arc (z : Int) (l : List St) (s : St) {n : Nat} {a : Ar} (hn : n ≤ 60) (h : arcB n a = true) : addP (z, l ++ [s]) (partsA a) = some (z, l ++ [(s.1, s.2 ++ [a])]) := by
  simp only [arcB, inB, Bool.and_eq_true, decide_eq_true_eq] at h
  have h0 : wd (partsA a) 0 = wArc := rfl
  have h1 : wd (partsA a) 1 = decT a.2.2.2 := rfl
  have h2 : wd (partsA a) 2 = decT a.1 := rfl
  have h3 : wd (partsA a) 3 = decT a.2.1 := rfl
  have h4 : wd (partsA a) 4 = decT a.2.2.1 := rfl
  unfold addP
  rw [if_neg (by rintro ⟨e, _⟩; rw [h0] at e; revert e; decide), if_neg (by rintro ⟨e, _⟩; rw [h0] at e; revert e; decide), if_pos ⟨h0, rfl, by simp⟩]
  unfold arcQ
  rw [h1, h2, h3, h4, atO_dec (by omega) (by omega), atO_dec (by omega) (by omega), atO_dec (by omega) (by omega), atO_dec (by omega) (by omega)]
  simp only [Option.map_some, Option.bind_some]
  rw [addArc_last]
theorem arcsQ_read (z : Int) (l : List St) (s : St) {n : Nat} (hn : n ≤ 60) : ∀ ar : List Ar, (∀ a ∈ ar, arcB n a = true) → (ar.map partsA).foldl addO (some (z, l ++ [s])) = some (z, l ++ [(s.1, s.2 ++ ar)]) := by
  intro ar
  induction ar generalizing s with
  | nil => intro _; simp
  | cons a ar ih =>
    intro h
    have h1 : addO (some (z, l ++ [s])) (partsA a) = some (z, l ++ [(s.1, s.2 ++ [a])]) := addP_arc z l s hn (h a (by simp))
    rw [List.map_cons, List.foldl_cons, h1, ih (s.1, s.2 ++ [a]) (fun b hb => h b (by simp [hb]))]
    simp
theorem statesQ_read (z : Int) {n : Nat} (hn : n ≤ 60) : ∀ (r l : List St), (∀ s ∈ r, finB s.1 = true ∧ ∀ a ∈ s.2, arcB n a = true) → (r.flatMap partsS).foldl addO (some (z, l)) = some (z, l ++ r) := by
  intro r
  induction r with
  | nil => intro l _; simp
  | cons s r ih =>
    intro l h
    have h1 := h s (by simp)
    rw [List.flatMap_cons, List.foldl_append]
    have h2 : addO (some (z, l)) [wState, finT s.1] = some (z, l ++ [(s.1, [])]) := addP_state z l h1.1
    show (r.flatMap partsS).foldl addO ((s.2.map partsA).foldl addO (addO (some (z, l)) [wState, finT s.1])) = _
    rw [h2, arcsQ_read z l (s.1, []) hn s.2 h1.2, ih _ (fun t ht => h t (by simp [ht]))]
    simp
/-- What is shown is read. -/
theorem readQ_shown {m : Mc} (h : faultM m = 0) : readQ (partsM m) = some m := by
  obtain ⟨z, l⟩ := m
  have h1 := right_size h
  have h2 := (faultM_zero h).2
  simp only [rangeB, Bool.and_eq_true, inB, decide_eq_true_eq] at h2
  show (l.flatMap partsS).foldl addO (addP (0, []) [wStart, startT z]) = _
  rw [addP_start (0, []) (by omega) (by omega), statesQ_read z h1.1 l [] (fun s hs => by
    obtain ⟨j, hj, rfl⟩ := mem_el hs
    have h3 := right_st h hj
    exact ⟨h3.1, fun a ha => List.all_eq_true.1 h3.2 a ha⟩)]
  simp
theorem lines_joined : ∀ o : List (List UInt8), (∀ x ∈ o, ∀ b ∈ x, b ≠ 10) → linesL (joinC 10 o) = o
  | [], _ => rfl
  | x :: o, h => by
    have e : joinC 10 (x :: o) = x ++ 10 :: joinC 10 o := by simp [joinC]
    obtain ⟨h1, h2⟩ := bef_at 10 x (joinC 10 o) (h x (by simp))
    rw [e, linesL_cons (by simp), h1, h2, lines_joined o (fun y hy => h y (by simp [hy]))]
theorem lines_text (m : Mc) : (linesL (textM m)).map wordsL = partsM m := by
  have hc := parts_clean m
  unfold textM
  rw [lines_joined _ (fun x hx => by
    obtain ⟨p, hp, rfl⟩ := List.mem_map.1 hx
    exact line_clean (fun x hx b hb => ((hc p hp).2 x hx b hb).2)), List.map_map]
  conv => rhs; rw [← List.map_id (partsM m)]
  refine List.map_congr_left fun p hp => ?_
  exact words_line (hc p hp).1 (fun x hx b hb => ((hc p hp).2 x hx b hb).1)
/-- What is read of a text by its lines, if the machine is right and has this text, is what is read of it. -/
theorem readQ_fine {s : List UInt8} {m : Mc} (hf : faultM m = 0) (ht : textM m = s) : readQ ((linesL s).map wordsL) = some m := by
  rw [← ht, lines_text, readQ_shown hf]
theorem readM_none_of {s : List UInt8} (h : ∀ m, readQ ((linesL s).map wordsL) = some m → ¬ (faultM m = 0 ∧ textM m = s)) : readM s = none := by
  cases hm : readM s with
  | none => rfl
  | some m =>
    obtain ⟨h1, h2⟩ := readM_iff.1 hm
    exact absurd ⟨h1, h2⟩ (h m (readQ_fine h1 h2))
/-- How long the lists may be. -/
def Few (n : Nat) (l : List St) : Prop := l.length ≤ n ∧ ∀ s ∈ l, s.2.length ≤ n
theorem Few.nil : Few 0 [] := ⟨Nat.le_refl _, by simp⟩
theorem Few.mono {n k : Nat} {l : List St} (h : Few n l) (hk : n ≤ k) : Few k l := ⟨by have := h.1; omega, fun s hs => Nat.le_trans (h.2 s hs) hk⟩
theorem addArc_few {n : Nat} {l : List St} {a : Ar} (h : Few n l) : Few (n + 1) (addArc l a) := by
  by_cases h0 : l = []
  · subst h0; exact ⟨by simp [addArc], by simp [addArc]⟩
  · obtain ⟨r, s, rfl⟩ := snoc_of h0
    rw [addArc_last]
    refine ⟨by have := h.1; simp at this ⊢; omega, fun t ht => ?_⟩
    rcases List.mem_append.1 ht with g | g
    · have := h.2 t (by simp [g]); omega
    · simp at g; subst g; have := h.2 s (by simp); simp; omega
theorem addP_few {n : Nat} {m r : Mc} {p : List (List UInt8)} (hm : Few n m.2) (h : addP m p = some r) : Few (n + 1) r.2 := by
  unfold addP at h
  split at h
  · obtain ⟨z, _, e⟩ := Option.map_eq_some_iff.1 h
    rw [← e]; exact hm.mono (by omega)
  · split at h
    · obtain ⟨f, _, e⟩ := Option.map_eq_some_iff.1 h
      rw [← e]
      refine ⟨by have := hm.1; simp; omega, fun s hs => ?_⟩
      rcases List.mem_append.1 hs with g | g
      · have := hm.2 s g; omega
      · simp at g; subst g; simp
    · split at h
      · obtain ⟨a, _, e⟩ := Option.map_eq_some_iff.1 h
        rw [← e]; exact addArc_few hm
      · simp at h
theorem foldQ_few : ∀ (ps : List (List (List UInt8))) (n : Nat) (m r : Mc), Few n m.2 → ps.foldl addO (some m) = some r → Few (n + ps.length) r.2 := by
  intro ps
  induction ps with
  | nil => intro n m r h e; simp at e; subst e; exact h
  | cons p ps ih =>
    intro n m r h e
    rw [List.foldl_cons] at e
    cases hp : addP m p with
    | none =>
      have : addO (some m) p = none := hp
      rw [this, addO_none] at e
      simp at e
    | some m' =>
      have : addO (some m) p = some m' := hp
      rw [this] at e
      exact (ih (n + 1) m' r (addP_few h hp) e).mono (by simp; omega)
theorem readQ_few {ps : List (List (List UInt8))} {m : Mc} (h : readQ ps = some m) : Few ps.length m.2 := by
  have := foldQ_few ps 0 (0, []) m Few.nil h
  simpa using this
theorem mem_tw {c : UInt8} : ∀ (l : List UInt8) (b : UInt8), b ∈ l.takeWhile (· != c) → b ≠ c
  | [], b, h => by simp at h
  | x :: l, b, h => by
    rcases bool_cases (x != c) with g | g
    · simp only [List.takeWhile, g] at h
      rcases List.mem_cons.1 h with e | e
      · subst e; exact bne_iff_ne.1 g
      · exact mem_tw l b e
    · simp only [List.takeWhile, g] at h
      simp at h
/-- The pieces between blanks are the words. -/
theorem split_list : ∀ (k : Nat) (l : List UInt8), l.count 32 = k → Lib.splitK [32] 0 k l ≠ [] ∧ (∀ x ∈ Lib.splitK [32] 0 k l, ∀ b ∈ x, b ≠ 32) ∧ lineP (Lib.splitK [32] 0 k l) = l
  | 0, l, h => by
    have hc : ∀ b ∈ l, b ≠ 32 := fun b hb e => by
      subst e
      have := List.count_pos_iff.2 hb
      omega
    refine ⟨by simp [Lib.splitK], fun x hx => ?_, rfl⟩
    simp [Lib.splitK] at hx
    subst hx
    exact hc
  | k + 1, l, h => by
    have hm : (32 : UInt8) ∈ l := List.count_pos_iff.1 (by omega)
    rcases idx_cases 32 l with ⟨h1, _⟩ | ⟨h1, i, h2, h3, h4, h5⟩
    · exfalso
      unfold fnd at h1
      have : l.any (· == 32) = true := List.any_eq_true.2 ⟨32, hm, by simp⟩
      rw [this] at h1
      simp at h1
    · have hi : Lib.index l [32] = (i : Int) := by rw [Lib.index_one]; exact h2
      have hne : ¬ (Lib.index l [32] == -1) = true := fun e => by have := beq_iff_eq.1 e; omega
      have hsp : Lib.splitK [32] 0 (k + 1) l = l.take i :: Lib.splitK [32] 0 k (l.drop (i + 1)) := by
        rw [Lib.splitK, if_neg hne, hi]
        simp
      have hx : ∀ b ∈ l.take i, b ≠ 32 := by
        rw [← h4]
        intro b hb
        exact mem_tw l b hb
      have hget : l[i]? = some 32 := by
        have e1 : l.drop i = l.dropWhile (· != 32) := by
          have e2 : l.take i ++ l.drop i = l.takeWhile (· != 32) ++ l.dropWhile (· != 32) := by rw [List.take_append_drop, List.takeWhile_append_dropWhile]
          have e3 : l.take i = l.takeWhile (· != 32) := h4.symm
          rw [e3] at e2
          exact List.append_cancel_left e2
        have e4 : l[i]? = (l.drop i)[0]? := by simp
        rw [e4, e1]
        have e5 : l.dropWhile (· != 32) ≠ [] := by
          rw [← e1]; intro e; have := congrArg List.length e; simp at this; omega
        obtain ⟨c, r, hr⟩ := List.exists_cons_of_ne_nil e5
        have := List.head_dropWhile_not (fun x => x != 32) e5
        simp only [hr, List.head_cons] at this
        rw [hr]
        simp at this ⊢
        exact this
      have hl : l = l.take i ++ 32 :: l.drop (i + 1) := by
        have e1 : l.drop i = 32 :: l.drop (i + 1) := by
          rw [List.drop_eq_getElem_cons h3]
          congr 1
          rw [List.getElem?_eq_getElem h3] at hget
          simpa using hget
        rw [← e1, List.take_append_drop]
      have hk : (l.drop (i + 1)).count 32 = k := by
        have e1 : l.count 32 = (l.take i).count 32 + ((l.drop (i + 1)).count 32 + 1) := by
          conv => lhs; rw [hl]
          rw [List.count_append, List.count_cons_self]
        have e2 : (l.take i).count 32 = 0 := List.count_eq_zero.2 (fun hb => hx 32 hb rfl)
        omega
      obtain ⟨g1, g2, g3⟩ := split_list k (l.drop (i + 1)) hk
      rw [hsp]
      refine ⟨by simp, fun x hx' => ?_, ?_⟩
      · rcases List.mem_cons.1 hx' with e | e
        · subst e; exact hx
        · exact g2 x e
      · obtain ⟨c, r, hr⟩ := List.exists_cons_of_ne_nil g1
        rw [hr] at g3 ⊢
        show l.take i ++ [32] ++ lineP (c :: r) = l
        rw [g3]
        conv => rhs; rw [hl]
        simp
theorem split_words (s : ByteArray) : (Lib.splitB ⟨#[32]⟩ 0 (Lib.countB s ⟨#[32]⟩) s).map (·.data.toList) = wordsL s.data.toList := by
  rw [Lib.splitB_data]
  have hc : Lib.countB s ⟨#[32]⟩ = s.data.toList.count 32 := Lib.count_one 32 s.data.toList
  obtain ⟨g1, g2, g3⟩ := split_list _ s.data.toList rfl
  rw [hc]
  show Lib.splitK [32] 0 (s.data.toList.count 32) s.data.toList = _
  rw [← words_line g1 g2, g3]
/-- A line as Join makes it. -/
theorem join_line : ∀ p : List (List UInt8), Lib.join p [32] = lineP p
  | [] => rfl
  | [x] => Lib.join_one x [32]
  | x :: y :: p => by
    rw [Lib.join_cons]
    have h := join_line (y :: p)
    rw [Lib.join_cons] at h
    show _ = x ++ [32] ++ lineP (y :: p)
    rw [← h]
    simp [Lib.joinTail]
end Go.Proofs.YtbbjpdadickilaaDoor.Pl
