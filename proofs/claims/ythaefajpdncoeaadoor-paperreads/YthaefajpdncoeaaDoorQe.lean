/- The program's reader: what a line adds to the machine that is read. -/
import Derived.Test.YthaefajpdncoeaaDoorQd
namespace Go.Proofs.YthaefajpdncoeaaDoor.Wt
open Go.ChangeShapes Go.WideShapes Go.ChangeAt Go.RowKit
open Go.Proofs.YthaefajpdncoeaaDoor.Pl
set_option linter.unusedVariables false
set_option linter.unusedSimpArgs false
theorem addArc_nil (base M bk : Nat) (z : Int) (W : World) (h : MacAt base M z [] W) :
    Calls Tryd.prog 44 #[.pointer (some ⟨M, 0, none⟩), .slice (some ⟨bk, 1, none⟩) 4 4] W fun e W' => e = .returned (.bool false) ∧ W' = W := by
  obtain ⟨v, hb, ho⟩ := h
  obtain ⟨a, cap, rfl⟩ := ho.sl
  have m1 := hb.cell 1 (v := .slice a 0 cap) rfl
  clear ho hb
  go_enter Tryd.func44, Tryd.ntmps44
  go_wp2
  go_ret
  exact ⟨rfl, rfl⟩
/-- What add answers. -/
def AddAns (base M : Nat) (m : Mc) (p : List (List UInt8)) (W : World) (e : Ending) (W' : World) : Prop :=
  Below M W W' ∧ Kept (some M) W W' ∧ ((e = .returned (.bool true) ∧ ∃ r : Mc, addP m p = some r ∧ MacAt base M r.1 r.2 W') ∨ (e = .returned (.bool false) ∧ addP m p = none))
theorem add_else (base M bk : Nat) (z : Int) (l : List St) (x0 : ByteArray) (n : Nat) (p : List (List UInt8)) (W : World) (hc : W.cell? ⟨bk, 0, none⟩ = some (.string x0)) (hn : 0 < n) (hn2 : n ≤ 30000) (hp : p.length = n) (hp0 : wd p 0 = x0.data.toList)
    (h1 : ¬ (wd p 0 = wStart ∧ p.length = 2)) (h2 : ¬ (wd p 0 = wState ∧ p.length = 2)) (h3 : ¬ (wd p 0 = wArc ∧ p.length = 5)) :
    Calls Tryd.prog 24 #[.pointer (some ⟨M, 0, none⟩), .slice (some ⟨bk, 0, none⟩) n n] W fun e W' => AddAns base M (z, l) p W e W' := by
  have HQ : Hid (AddAns base M (z, l) p W (.returned (.bool false)) W) := by
    refine ⟨Below.refl _ _, Kept.refl _ _, .inr ⟨rfl, ?_⟩⟩
    unfold addP
    rw [if_neg h1, if_neg h2, if_neg (fun h => h3 ⟨h.1, h.2.1⟩)]
  have hn' : (0 : Int) < (n : Int) := by omega
  rw [hp0, hp] at h1 h2 h3
  clear hp0 hp
  by_cases c1 : x0.data.toList = wStart
  · have n2 : ((n : Int) == 2) = false := beq_eq_false_iff_ne.2 (fun e => h1 ⟨c1, by omega⟩)
    have e1 : (x0.toList == [115, 116, 97, 114, 116]) = true := eq_toList c1
    have e2 : (x0.toList == [115, 116, 97, 116, 101]) = false := ne_toList (by rw [c1]; decide)
    have e3 : (x0.toList == [97, 114, 99]) = false := ne_toList (by rw [c1]; decide)
    clear c1 h1 h2 h3
    go_enter Tryd.func24, Tryd.ntmps24
    go_wp2
    refine bodyPost_ret (v := .bool false) (by simp [results, Tryd.results24, go_sem]) rfl HQ.out
  · have e1 : (x0.toList == [115, 116, 97, 114, 116]) = false := ne_toList c1
    by_cases c2 : x0.data.toList = wState
    · have n2 : ((n : Int) == 2) = false := beq_eq_false_iff_ne.2 (fun e => h2 ⟨c2, by omega⟩)
      have e2 : (x0.toList == [115, 116, 97, 116, 101]) = true := eq_toList c2
      have e3 : (x0.toList == [97, 114, 99]) = false := ne_toList (by rw [c2]; decide)
      clear c1 c2 h1 h2 h3
      go_enter Tryd.func24, Tryd.ntmps24
      go_wp2
      refine bodyPost_ret (v := .bool false) (by simp [results, Tryd.results24, go_sem]) rfl HQ.out
    · have e2 : (x0.toList == [115, 116, 97, 116, 101]) = false := ne_toList c2
      by_cases c3 : x0.data.toList = wArc
      · have n2 : ((n : Int) == 5) = false := beq_eq_false_iff_ne.2 (fun e => h3 ⟨c3, by omega⟩)
        have e3 : (x0.toList == [97, 114, 99]) = true := eq_toList c3
        clear c1 c2 c3 h1 h2 h3
        go_enter Tryd.func24, Tryd.ntmps24
        go_wp2
        refine bodyPost_ret (v := .bool false) (by simp [results, Tryd.results24, go_sem]) rfl HQ.out
      · have e3 : (x0.toList == [97, 114, 99]) = false := ne_toList c3
        clear c1 c2 c3 h1 h2 h3
        go_enter Tryd.func24, Tryd.ntmps24
        go_wp2
        refine bodyPost_ret (v := .bool false) (by simp [results, Tryd.results24, go_sem]) rfl HQ.out
theorem add_start (base M bk : Nat) (z : Int) (l : List St) (x0 x1 : ByteArray) (W : World) (h : MacAt base M z l W) (hM : M < base) (hs : Wds W bk [x0, x1]) (he : Errs W) (hz : x1.size ≤ 20000) (c1 : x0.data.toList = wStart) :
    Calls Tryd.prog 24 #[.pointer (some ⟨M, 0, none⟩), .slice (some ⟨bk, 0, none⟩) 2 2] W fun e W' => AddAns base M (z, l) [x0.data.toList, x1.data.toList] W e W' := by
  have HA : Hid (Calls Tryd.prog 42 #[.pointer (some ⟨M, 0, none⟩), .string x1] W fun e W' => ∃ b, e = .returned (.bool b) ∧ AddAns base M (z, l) [x0.data.toList, x1.data.toList] W e W') := by
    refine (addStart_any base M z l x1 W h hM hz he).mono ?_
    have ep : addP (z, l) [x0.data.toList, x1.data.toList] = (startQ x1.data.toList).map fun z => (z, l) := by unfold addP; rw [if_pos ⟨c1, rfl⟩]; rfl
    rintro e w' ⟨hb, hk, ⟨rfl, z', hq, hm⟩ | ⟨rfl, hq⟩⟩
    · exact ⟨true, rfl, hb, hk, .inl ⟨rfl, (z', l), by rw [ep, hq]; rfl, hm⟩⟩
    · exact ⟨false, rfl, hb, hk, .inr ⟨rfl, by rw [ep, hq]; rfl⟩⟩
  have d0 : W.cell? ⟨bk, 0, none⟩ = some (.string x0) := hs.2 0 x0 rfl
  have d1 : W.cell? ⟨bk, 1, none⟩ = some (.string x1) := hs.2 1 x1 rfl
  have e1 : (x0.toList == [115, 116, 97, 114, 116]) = true := eq_toList c1
  clear h hs he c1
  go_enter Tryd.func24, Tryd.ntmps24
  go_wp2_with (first | (go_at_call 42; (with_reducible refine HA.out.mono ?_); rintro e w1 ⟨b, rfl, hq⟩; have HQ : Hid (AddAns base M (z, l) [x0.data.toList, x1.data.toList] W (.returned (.bool b)) w1) := hq; clear hq))
  exact bodyPost_ret (v := .bool b) (by simp [results, Tryd.results24, go_sem]) rfl HQ.out
theorem add_state (base M bk : Nat) (z : Int) (l : List St) (x0 x1 : ByteArray) (W : World) (h : MacAt base M z l W) (hM : M < base) (hbW : base ≤ W.heap.size) (hs : Wds W bk [x0, x1]) (hz : x1.size ≤ 20000) (hl : l.length ≤ 100000) (c1 : x0.data.toList = wState) :
    Calls Tryd.prog 24 #[.pointer (some ⟨M, 0, none⟩), .slice (some ⟨bk, 0, none⟩) 2 2] W fun e W' => AddAns base M (z, l) [x0.data.toList, x1.data.toList] W e W' := by
  have HA : Hid (Calls Tryd.prog 43 #[.pointer (some ⟨M, 0, none⟩), .string x1] W fun e W' => ∃ b, e = .returned (.bool b) ∧ AddAns base M (z, l) [x0.data.toList, x1.data.toList] W e W') := by
    refine (addState_any base M z l x1 W h hM hbW hz hl).mono ?_
    have ep : addP (z, l) [x0.data.toList, x1.data.toList] = (finQ x1.data.toList).map fun f => (z, l ++ [(f, [])]) := by
      unfold addP
      rw [show wd [x0.data.toList, x1.data.toList] 0 = wState from c1, if_neg (by rintro ⟨e, _⟩; revert e; decide), if_pos ⟨rfl, rfl⟩]; rfl
    rintro e w' ⟨hb, hk, ⟨rfl, f, hq, hm⟩ | ⟨rfl, hq⟩⟩
    · exact ⟨true, rfl, hb, hk, .inl ⟨rfl, (z, l ++ [(f, [])]), by rw [ep, hq]; rfl, hm⟩⟩
    · exact ⟨false, rfl, hb, hk, .inr ⟨rfl, by rw [ep, hq]; rfl⟩⟩
  have d0 : W.cell? ⟨bk, 0, none⟩ = some (.string x0) := hs.2 0 x0 rfl
  have d1 : W.cell? ⟨bk, 1, none⟩ = some (.string x1) := hs.2 1 x1 rfl
  have e1 : (x0.toList == [115, 116, 97, 114, 116]) = false := ne_toList (by rw [c1]; decide)
  have e2 : (x0.toList == [115, 116, 97, 116, 101]) = true := eq_toList c1
  clear h hs c1
  go_enter Tryd.func24, Tryd.ntmps24
  go_wp2_with (first | (go_at_call 43; (with_reducible refine HA.out.mono ?_); rintro e w1 ⟨b, rfl, hq⟩; have HQ : Hid (AddAns base M (z, l) [x0.data.toList, x1.data.toList] W (.returned (.bool b)) w1) := hq; clear hq))
  exact bodyPost_ret (v := .bool b) (by simp [results, Tryd.results24, go_sem]) rfl HQ.out
theorem add_arc (base M bk : Nat) (z : Int) (l : List St) (x0 x1 x2 x3 x4 : ByteArray) (W : World) (h : MacAt base M z l W) (hM : M < base) (hbW : base ≤ W.heap.size) (hs : Wds W bk [x0, x1, x2, x3, x4]) (he : Errs W) (z1 : x1.size ≤ 20000) (z2 : x2.size ≤ 20000) (z3 : x3.size ≤ 20000) (z4 : x4.size ≤ 20000) (hf : Few 100000 l) (c1 : x0.data.toList = wArc) :
    Calls Tryd.prog 24 #[.pointer (some ⟨M, 0, none⟩), .slice (some ⟨bk, 0, none⟩) 5 5] W fun e W' => AddAns base M (z, l) [x0.data.toList, x1.data.toList, x2.data.toList, x3.data.toList, x4.data.toList] W e W' := by
  generalize hp : [x0.data.toList, x1.data.toList, x2.data.toList, x3.data.toList, x4.data.toList] = p
  have hp0 : wd p 0 = wArc := by rw [← hp]; exact c1
  have hpl : p.length = 5 := by rw [← hp]; rfl
  have ep : addP (z, l) p = if l ≠ [] then (arcQ p).map fun a => (z, addArc l a) else none := by
    unfold addP
    rw [hp0, if_neg (by rintro ⟨e, _⟩; revert e; decide), if_neg (by rintro ⟨e, _⟩; revert e; decide)]
    by_cases h0 : l ≠ []
    · rw [if_pos ⟨rfl, hpl, h0⟩, if_pos h0]
    · rw [if_neg (fun h => h0 h.2.2), if_neg h0]
  have HA : Hid (Calls Tryd.prog 44 #[.pointer (some ⟨M, 0, none⟩), .slice (some ⟨bk, 1, none⟩) 4 4] W fun e W' => ∃ b, e = .returned (.bool b) ∧ AddAns base M (z, l) p W e W') := by
    by_cases h0 : l = []
    · subst h0
      refine (addArc_nil base M bk z W h).mono ?_
      rintro e w' ⟨rfl, rfl⟩
      exact ⟨false, rfl, Below.refl _ _, Kept.refl _ _, .inr ⟨rfl, by rw [ep, if_neg (by simp)]⟩⟩
    · obtain ⟨t, sl, rfl⟩ := snoc_of h0
      refine (addArc_any base M bk z t sl p x1 x2 x3 x4 W h hM hbW (hs.2 1 x1 rfl) (hs.2 2 x2 rfl) (hs.2 3 x3 rfl) (hs.2 4 x4 rfl) hs.1 (by rw [← hp]; rfl) (by rw [← hp]; rfl) (by rw [← hp]; rfl) (by rw [← hp]; rfl) z1 z2 z3 z4 he (by have := hf.1; simp at this; omega) (hf.2 sl (by simp))).mono ?_
      rintro e w' ⟨hb, hk, ⟨rfl, a, hq, hm⟩ | ⟨rfl, hq⟩⟩
      · exact ⟨true, rfl, hb, hk, .inl ⟨rfl, (z, t ++ [(sl.1, sl.2 ++ [a])]), by rw [ep, if_pos h0, hq]; simp only [Option.map_some]; rw [addArc_last], hm⟩⟩
      · exact ⟨false, rfl, hb, hk, .inr ⟨rfl, by rw [ep, if_pos h0, hq]; rfl⟩⟩
  have d0 : W.cell? ⟨bk, 0, none⟩ = some (.string x0) := hs.2 0 x0 rfl
  have e1 : (x0.toList == [115, 116, 97, 114, 116]) = false := ne_toList (by rw [c1]; decide)
  have e2 : (x0.toList == [115, 116, 97, 116, 101]) = false := ne_toList (by rw [c1]; decide)
  have e3 : (x0.toList == [97, 114, 99]) = true := eq_toList c1
  clear h hs he c1 hp hp0 hpl ep hf
  go_enter Tryd.func24, Tryd.ntmps24
  go_wp2_with (first | (go_at_call 44; (with_reducible refine HA.out.mono ?_); rintro e w1 ⟨b, rfl, hq⟩; have HQ : Hid (AddAns base M (z, l) p W (.returned (.bool b)) w1) := hq; clear hq))
  exact bodyPost_ret (v := .bool b) (by simp [results, Tryd.results24, go_sem]) rfl HQ.out
theorem add_any (base M bk : Nat) (z : Int) (l : List St) (xs : List ByteArray) (W : World) (h : MacAt base M z l W) (hM : M < base) (hbW : base ≤ W.heap.size) (hs : Wds W bk xs) (hne : xs ≠ []) (hlen : xs.length ≤ 30000) (hz : ∀ x ∈ xs, x.size ≤ 20000) (he : Errs W) (hf : Few 100000 l) :
    Calls Tryd.prog 24 #[.pointer (some ⟨M, 0, none⟩), .slice (some ⟨bk, 0, none⟩) xs.length xs.length] W fun e W' => AddAns base M (z, l) (xs.map (·.data.toList)) W e W' := by
  obtain ⟨x0, r, rfl⟩ := List.exists_cons_of_ne_nil hne
  by_cases h1 : x0.data.toList = wStart ∧ r.length = 1
  · obtain ⟨x1, rfl⟩ := List.length_eq_one_iff.1 h1.2
    exact add_start base M bk z l x0 x1 W h hM hs he (hz x1 (by simp)) h1.1
  · by_cases h2 : x0.data.toList = wState ∧ r.length = 1
    · obtain ⟨x1, rfl⟩ := List.length_eq_one_iff.1 h2.2
      exact add_state base M bk z l x0 x1 W h hM hbW hs (hz x1 (by simp)) hf.1 h2.1
    · by_cases h3 : x0.data.toList = wArc ∧ r.length = 4
      · match r, h3.2 with
        | [x1, x2, x3, x4], _ => exact add_arc base M bk z l x0 x1 x2 x3 x4 W h hM hbW hs he (hz x1 (by simp)) (hz x2 (by simp)) (hz x3 (by simp)) (hz x4 (by simp)) hf h3.1
      · refine add_else base M bk z l x0 (x0 :: r).length _ W (hs.2 0 x0 rfl) (by simp) hlen (by simp) rfl ?_ ?_ ?_
        · rintro ⟨e1, e2⟩; exact h1 ⟨e1, by simpa using e2⟩
        · rintro ⟨e1, e2⟩; exact h2 ⟨e1, by simpa using e2⟩
        · rintro ⟨e1, e2⟩; exact h3 ⟨e1, by simpa using e2⟩
end Go.Proofs.YthaefajpdncoeaaDoor.Wt
