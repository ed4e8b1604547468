/- Machines as words in lines: read as they are shown, shown as they are read (no program in sight). -/
import Derived.Test.YtbbjpdadickilaaDoorPlainK
import Derived.Test.YtbbjpdadickilaaDoorPlainN
namespace Go.Proofs.YtbbjpdadickilaaDoor.Pl
def wStart : List UInt8 := [115, 116, 97, 114, 116]
def wState : List UInt8 := [115, 116, 97, 116, 101]
def wArc : List UInt8 := [97, 114, 99]
def wInf : List UInt8 := [105, 110, 102]
def decT (n : Int) : List UInt8 := Lib.decDigits n.toNat
def finT (f : Int) : List UInt8 := if f = 1000000001 then wInf else decT f
def startT (z : Int) : List UInt8 := if z < 0 then [45] else decT z
/-- The words of the lines of an arc, of a state, of a machine. -/
def partsA (a : Ar) : List (List UInt8) := [wArc, decT a.2.2.2, decT a.1, decT a.2.1, decT a.2.2.1]
def partsS (s : St) : List (List (List UInt8)) := [wState, finT s.1] :: s.2.map partsA
def partsM (m : Mc) : List (List (List UInt8)) := [wStart, startT m.1] :: m.2.flatMap partsS
/-- A number as it is shown, at most this. -/
def numE (w : List UInt8) (most : Int) : Option Int := if numB w = true ∧ numV w ≤ most then some (numV w) else none
theorem numE_some {w : List UInt8} {most n : Int} (h : numE w most = some n) : decT n = w ∧ 0 ≤ n ∧ n ≤ most := by
  unfold numE at h
  split at h
  · rename_i h1
    simp only [Option.some.injEq] at h
    subst h
    have hd : w.all digB = true := by
      have := h1.1
      unfold numB at this
      simp only [Bool.and_eq_true] at this
      exact this.2
    exact ⟨dec_of_numB w h1.1, (numV_bd w hd).1, h1.2⟩
  · simp at h
theorem numE_dec {n most : Int} (h0 : 0 ≤ n) (h1 : n ≤ most) : numE (decT n) most = some n := by
  unfold numE decT
  have hv := (dec_digits n.toNat).2.1
  rw [hv, if_pos ⟨numB_dec _, by omega⟩]
  congr 1
  omega
theorem dec_ne {n : Int} {w : List UInt8} {c : UInt8} (hc : c ∈ w) (hd : digB c = false) : decT n ≠ w := by
  intro e
  have h := (dec_digits n.toNat).1
  unfold decT at e
  rw [e, List.all_eq_true] at h
  rw [h c hc] at hd
  cases hd
def finE (w : List UInt8) : Option Int := if w = wInf then some 1000000001 else numE w 1000000000
theorem finE_some {w : List UInt8} {f : Int} (h : finE w = some f) : finT f = w := by
  unfold finE at h
  split at h
  · rename_i e
    simp only [Option.some.injEq] at h
    subst h
    rw [e]; rfl
  · obtain ⟨h1, h2, h3⟩ := numE_some h
    unfold finT
    rw [if_neg (by omega), h1]
theorem finE_fin {f : Int} (h : finB f = true) : finE (finT f) = some f := by
  unfold finT finE
  by_cases e : f = 1000000001
  · rw [if_pos e, if_pos rfl, e]
  · rw [if_neg e, if_neg (dec_ne (c := 105) (by simp [wInf]) (by decide))]
    simp [finB, inB, e] at h
    exact numE_dec h.1 h.2
def startE (w : List UInt8) : Option Int := if w = [45] then some (-1) else numE w 60
theorem startE_some {w : List UInt8} {z : Int} (h : startE w = some z) : startT z = w := by
  unfold startE at h
  split at h
  · rename_i e
    simp only [Option.some.injEq] at h
    subst h
    rw [e]; rfl
  · obtain ⟨h1, h2, h3⟩ := numE_some h
    unfold startT
    rw [if_neg (by omega), h1]
theorem startE_start {z : Int} (h0 : -1 ≤ z) (h1 : z ≤ 60) : startE (startT z) = some z := by
  unfold startT startE
  by_cases e : z < 0
  · rw [if_pos e, if_pos rfl]; congr 1; omega
  · rw [if_neg e, if_neg (dec_ne (c := 45) (by simp) (by decide))]
    exact numE_dec (by omega) h1
/-- One arc more, at the last state. -/
def addArc : List St → Ar → List St
  | [], _ => []
  | [s], a => [(s.1, s.2 ++ [a])]
  | s :: t :: l, a => s :: addArc (t :: l) a
theorem addArc_last (l : List St) (s : St) (a : Ar) : addArc (l ++ [s]) a = l ++ [(s.1, s.2 ++ [a])] := by
  induction l with
  | nil => rfl
  | cons x l ih =>
    cases l with
    | nil => rfl
    | cons y l => exact congrArg (x :: ·) ih
/-- A line. -/
def lineE (o : Option (List St)) (p : List (List UInt8)) : Option (List St) := match o with
  | none => none
  | some l => match p with
    | [w, f] => if w = wState then (finE f).map (fun f => l ++ [(f, [])]) else none
    | [w, t, i, o, x] => if w = wArc ∧ l ≠ [] then (match numE t 60, numE i 1000, numE o 1000, numE x 1000000000 with
      | some t, some i, some o, some x => some (addArc l (i, o, x, t))
      | _, _, _, _ => none) else none
    | _ => none
theorem lineE_state (l : List St) {f : Int} (h : finB f = true) : lineE (some l) [wState, finT f] = some (l ++ [(f, [])]) := by
  show (if wState = wState then (finE (finT f)).map (fun f => l ++ [(f, [])]) else none) = _
  rw [if_pos rfl, finE_fin h]; rfl
theorem lineE_arc (l : List St) (s : St) {n : Nat} {a : Ar} (hn : n ≤ 60) (h : arcB n a = true) : lineE (some (l ++ [s])) (partsA a) = some (l ++ [(s.1, s.2 ++ [a])]) := by
  simp only [arcB, inB, Bool.and_eq_true, decide_eq_true_eq] at h
  show (if wArc = wArc ∧ l ++ [s] ≠ [] then (match numE (decT a.2.2.2) 60, numE (decT a.1) 1000, numE (decT a.2.1) 1000, numE (decT a.2.2.1) 1000000000 with
      | some t, some i, some o, some x => some (addArc (l ++ [s]) (i, o, x, t))
      | _, _, _, _ => none) else none) = _
  rw [if_pos ⟨rfl, by simp⟩, numE_dec (by omega) (by omega), numE_dec (by omega) (by omega), numE_dec (by omega) (by omega), numE_dec (by omega) (by omega)]
  simp only
  rw [addArc_last]
theorem arcs_read (l : List St) (s : St) {n : Nat} (hn : n ≤ 60) : ∀ ar : List Ar, (∀ a ∈ ar, arcB n a = true) → (ar.map partsA).foldl lineE (some (l ++ [s])) = some (l ++ [(s.1, s.2 ++ ar)]) := by
  intro ar
  induction ar generalizing s with
  | nil => intro _; simp
  | cons a ar ih =>
    intro h
    rw [List.map_cons, List.foldl_cons, lineE_arc l s hn (h a (by simp)), ih (s.1, s.2 ++ [a]) (fun b hb => h b (by simp [hb]))]
    simp
theorem states_read {n : Nat} (hn : n ≤ 60) : ∀ (r l : List St), (∀ s ∈ r, finB s.1 = true ∧ ∀ a ∈ s.2, arcB n a = true) → (r.flatMap partsS).foldl lineE (some l) = some (l ++ r) := by
  intro r
  induction r with
  | nil => intro l _; simp
  | cons s r ih =>
    intro l h
    have h1 := h s (by simp)
    rw [List.flatMap_cons, List.foldl_append]
    show (r.flatMap partsS).foldl lineE ((s.2.map partsA).foldl lineE (lineE (some l) [wState, finT s.1])) = _
    rw [lineE_state l h1.1, arcs_read l (s.1, []) hn s.2 h1.2, ih _ (fun t ht => h t (by simp [ht]))]
    simp
/-- What is read of lines of words. -/
def readP (ps : List (List (List UInt8))) : Option Mc := match ps with
  | [w, z] :: rest => if w = wStart then (match startE z, rest.foldl lineE (some []) with
    | some z, some l => some (z, l)
    | _, _ => none) else none
  | _ => none
/-- WHAT IS SHOWN IS READ. -/
theorem read_shown {m : Mc} (h : faultM m = 0) : readP (partsM m) = some m := by
  obtain ⟨z, l⟩ := m
  have h1 := right_size h
  have h2 := (faultM_zero h).2
  simp only [rangeB, Bool.and_eq_true, inB, decide_eq_true_eq] at h2
  show (if wStart = wStart then (match startE (startT z), (l.flatMap partsS).foldl lineE (some []) with
    | some z, some l => some (z, l)
    | _, _ => none) else none) = _
  rw [if_pos rfl, startE_start (by omega) (by omega), states_read h1.1 l [] (fun s hs => by
    obtain ⟨j, hj, rfl⟩ := mem_el hs
    have h3 := right_st h hj
    exact ⟨h3.1, fun a ha => List.all_eq_true.1 h3.2 a ha⟩)]
  simp
theorem parts_snoc (l : List St) (s : St) (a : Ar) : (l ++ [(s.1, s.2 ++ [a])]).flatMap partsS = (l ++ [s]).flatMap partsS ++ [partsA a] := by
  simp [List.flatMap_append, partsS]
theorem snoc_of {l : List St} (h : l ≠ []) : ∃ r s, l = r ++ [s] := ⟨l.dropLast, l.getLast h, (List.dropLast_concat_getLast h).symm⟩
theorem lineE_back {l r : List St} {p : List (List UInt8)} (h : lineE (some l) p = some r) : r.flatMap partsS = l.flatMap partsS ++ [p] := by
  unfold lineE at h
  simp only at h
  split at h
  · rename_i w f
    split at h
    · rename_i e
      cases hf : finE f with
      | none => rw [hf] at h; simp at h
      | some g =>
        rw [hf] at h
        simp only [Option.map_some, Option.some.injEq] at h
        subst h
        rw [e, ← finE_some hf]
        simp [List.flatMap_append, partsS]
    · simp at h
  · rename_i w t i o x
    split at h
    · rename_i e
      split at h
      · rename_i t' i' o' x' e1 e2 e3 e4
        simp only [Option.some.injEq] at h
        subst h
        obtain ⟨r, s, rfl⟩ := snoc_of e.2
        rw [addArc_last, parts_snoc, e.1]
        simp only [partsA]
        rw [(numE_some e1).1, (numE_some e2).1, (numE_some e3).1, (numE_some e4).1]
      · simp at h
    · simp at h
  · simp at h
theorem fold_none (ps : List (List (List UInt8))) : ps.foldl lineE none = none := by
  induction ps with
  | nil => rfl
  | cons p ps ih => exact ih
theorem fold_back : ∀ (ps : List (List (List UInt8))) (l r : List St), ps.foldl lineE (some l) = some r → r.flatMap partsS = l.flatMap partsS ++ ps := by
  intro ps
  induction ps with
  | nil => intro l r h; simp at h; subst h; simp
  | cons p ps ih =>
    intro l r h
    rw [List.foldl_cons] at h
    cases hl : lineE (some l) p with
    | none => rw [hl, fold_none] at h; simp at h
    | some l1 =>
      rw [hl] at h
      rw [ih l1 r h, lineE_back hl]
      simp
/-- WHAT IS READ IS SHOWN AS IT WAS. -/
theorem shown_read {ps : List (List (List UInt8))} {m : Mc} (h : readP ps = some m) : partsM m = ps := by
  unfold readP at h
  split at h
  · rename_i w z rest
    split at h
    · rename_i e
      split at h
      · rename_i z' l e1 e2
        simp only [Option.some.injEq] at h
        subst h
        unfold partsM
        rw [e, startE_some e1, fold_back rest [] l e2]
        simp
      · simp at h
    · simp at h
  · simp at h
end Go.Proofs.YtbbjpdadickilaaDoor.Pl
