/- Labels changed for others (no program in sight). Changes of labels in memory. Changes of labels under their keys (no program in sight). turn.changesOf, changes.of: changes under their keys. turn.changesOf: a list of changes under its keys, or why it is refused. -/
import Derived.Test.YtpfcljhbamnghabJ12h
import Derived.Test.YtpfcljhbamnghabRn
import Derived.WalkKit
import Derived.Maps.Views
import Derived.Test.YtpfcljhbamnghabBlk
import Derived.Maps.Own
import Derived.Maps.OwnSet
import Derived.Deep.QuietTactic
import Derived.BigQuiet
import Derived.Laws.NewFold
namespace Go.Proofs.Ytpfcljhbamnghab.Pl
set_option linter.unusedVariables false
set_option linter.unusedSimpArgs false
/-- A change: from, to. -/
abbrev Ch := Int × Int
def chgF : List Ch → Int → Int
  | [], x => x
  | c :: l, x => if c.1 = x then c.2 else chgF l x
theorem chg_hit {x : Int} : ∀ {l : List Ch} {i : Nat}, i < l.length → (∀ j, j < i → (el l j).1 ≠ x) → (el l i).1 = x → chgF l x = (el l i).2
  | [], i, h, _, _ => absurd h (by simp)
  | c :: l, 0, _, _, h => by
    rw [el_zero] at h ⊢
    simp [chgF, h]
  | c :: l, i + 1, hi, hn, h => by
    have h0 := hn 0 (by omega)
    rw [el_zero] at h0
    rw [el_succ] at h ⊢
    rw [chgF, if_neg h0]
    exact chg_hit (by simpa using hi) (fun j hj => by have := hn (j + 1) (by omega); rwa [el_succ] at this) h
theorem chg_none {x : Int} : ∀ {l : List Ch}, (∀ j, j < l.length → (el l j).1 ≠ x) → chgF l x = x
  | [], _ => rfl
  | c :: l, hn => by
    have h0 := hn 0 (by simp)
    rw [el_zero] at h0
    rw [chgF, if_neg h0]
    exact chg_none (fun j hj => by have := hn (j + 1) (by simpa using hj); rwa [el_succ] at this)
/-- P11.5: what is wrong with a list of changes. -/
def chB (c : Ch) : Bool := inB c.1 1 1000 && inB c.2 0 1000
def twcB (l : List Ch) : Bool := (List.range l.length).any fun i => (List.range i).any fun j => decide ((el l i).1 = (el l j).1)
def fltC (l : List Ch) : Int := if 50 < l.length then 1 else if l.all chB = false then 2 else if twcB l = true then 10 else 0
theorem twc_iff (l : List Ch) : twcB l = true ↔ ∃ i, i < l.length ∧ ∃ j, j < i ∧ (el l i).1 = (el l j).1 := by
  simp only [twcB, List.any_eq_true, List.mem_range, decide_eq_true_eq]
theorem flt_long {l : List Ch} (h : 50 < l.length) : fltC l = 1 := by unfold fltC; rw [if_pos h]
theorem all_no {l : List Ch} {i : Nat} (hi : i < l.length) (hb : chB (el l i) = false) : l.all chB = false := by
  rw [List.all_eq_false]
  exact ⟨el l i, el_mem hi, by simp [hb]⟩
theorem flt_range {l : List Ch} (h : ¬ 50 < l.length) {i : Nat} (hi : i < l.length) (hb : chB (el l i) = false) : fltC l = 2 := by
  unfold fltC
  rw [if_neg h, if_pos (all_no hi hb)]
theorem all_yes {l : List Ch} (ha : ∀ j, j < l.length → chB (el l j) = true) : ¬ l.all chB = false := by
  intro h
  rw [List.all_eq_false] at h
  obtain ⟨c, hc, hn⟩ := h
  obtain ⟨j, hj, rfl⟩ := List.getElem_of_mem hc
  have := ha j hj
  rw [el_get hj] at this
  exact hn this
theorem flt_twice {l : List Ch} (h : ¬ 50 < l.length) (ha : ∀ j, j < l.length → chB (el l j) = true) {i j : Nat} (hi : i < l.length) (hj : j < i) (he : (el l i).1 = (el l j).1) : fltC l = 10 := by
  unfold fltC
  rw [if_neg h, if_neg (all_yes ha), if_pos ((twc_iff l).2 ⟨i, hi, j, hj, he⟩)]
theorem flt_none {l : List Ch} (h : ¬ 50 < l.length) (ha : ∀ j, j < l.length → chB (el l j) = true) (ho : ∀ i, i < l.length → ∀ j, j < i → (el l i).1 ≠ (el l j).1) : fltC l = 0 := by
  unfold fltC
  rw [if_neg h, if_neg (all_yes ha), if_neg]
  intro ht
  obtain ⟨i, hi, j, hj, he⟩ := (twc_iff l).1 ht
  exact ho i hi j hj he
theorem flt_len {l : List Ch} (h : fltC l = 0) : l.length ≤ 50 := by
  unfold fltC at h
  by_cases g : 50 < l.length
  · rw [if_pos g] at h; cases h
  · omega
/-- P11.5: the machine. -/
def relA (ins outs : List Ch) (a : Ar) : Ar := (chgF ins a.1, chgF outs a.2.1, a.2.2.1, a.2.2.2)
def relS (ins outs : List Ch) (s : St) : St := (s.1, s.2.map (relA ins outs))
def relM (ins outs : List Ch) (m : Mc) : Mc := (m.1, m.2.map (relS ins outs))
def relE (ins outs : List Ch) (m : Mc) : Int := if faultM m ≠ 0 then faultM m else if fltC ins ≠ 0 then fltC ins else fltC outs
def relR (ins outs : List Ch) (m : Mc) : Mc := if relE ins outs m = 0 then relM ins outs m else (0, [])
theorem arcN_rel (ins outs : List Ch) (l : List St) : arcN (l.map (relS ins outs)) = arcN l := by
  induction l with
  | nil => rfl
  | cons s l ih => simp only [List.map_cons, arcN, ih, relS, List.length_map]
theorem relE_fault {ins outs : List Ch} {m : Mc} (h : relE ins outs m = 0) : faultM m = 0 ∧ fltC ins = 0 ∧ fltC outs = 0 := by
  unfold relE at h
  by_cases h1 : faultM m = 0
  · rw [if_neg (by simp [h1])] at h
    by_cases h2 : fltC ins = 0
    · rw [if_neg (by simp [h2])] at h
      exact ⟨h1, h2, h⟩
    · rw [if_pos h2] at h; exact absurd h h2
  · rw [if_pos h1] at h; exact absurd h h1
theorem relR_ok (ins outs : List Ch) (m : Mc) : okM (relR ins outs m) := by
  unfold relR
  split
  · rename_i h
    have := right_size (z := m.1) (l := m.2) (relE_fault h).1
    refine small_ok (by show (m.2.map _).length ≤ _; rw [List.length_map]; omega) ?_
    show arcN (m.2.map (relS ins outs)) ≤ _
    rw [arcN_rel]; omega
  · exact ⟨by simp, fun j hj => absurd hj (by simp)⟩
end Go.Proofs.Ytpfcljhbamnghab.Pl
namespace Go.Proofs.Ytpfcljhbamnghab.Wt
open Go.ChangeShapes Go.WideShapes Go.ChangeAt Go.RowKit
open Go.Proofs.Ytpfcljhbamnghab.Pl
set_option linter.unusedVariables false
set_option linter.unusedSimpArgs false
def encC (c : Ch) : List Value := [.int .i64 c.1, .int .i64 c.2]
theorem encC_len (c : Ch) : (encC c).length = 2 := rfl
theorem encC_one (c : Ch) : ∀ u ∈ encC c, u.oneCell' = true := by
  intro u hu
  simp [encC] at hu
  obtain rfl | rfl := hu <;> rfl
/-- The slice value v holds the changes l. -/
def Chs (w : World) (v : Value) (l : List Ch) : Prop := Row 2 encC w v l
theorem Chs.later {w w' : World} {v : Value} {l : List Ch} (h : Chs w v l) {B : Nat} (hb : Below B w w') (hB : w.heap.size ≤ B) : Chs w' v l := Row.later h hb hB
theorem Chs.sl {w : World} {v : Value} {l : List Ch} (h : Chs w v l) : ∃ a cap, v = .slice a l.length cap := Row.sl h
theorem Chs.get {w : World} {v : Value} {l : List Ch} (h : Chs w v l) : ∃ a cap, v = .slice a l.length cap ∧ ∀ j, j < l.length → ∃ b off, a = some ⟨b, off, none⟩ ∧ b < w.heap.size ∧ w.cell? ⟨b, off + j * 2, none⟩ = some (.int .i64 (el l j).1) ∧ w.cell? ⟨b, off + j * 2 + 1, none⟩ = some (.int .i64 (el l j).2) := by
  by_cases hz : 0 < l.length
  · obtain ⟨b, off, cap, hv, hb, hc⟩ := Row.plain h (fun x => by rw [encC_len]; omega) hz
    exact ⟨_, cap, hv, fun j hj => ⟨b, off, rfl, hb, hc j hj 0 _ rfl, hc j hj 1 _ rfl⟩⟩
  · obtain ⟨a, cap, hv⟩ := h.sl
    exact ⟨a, cap, hv, fun j hj => by omega⟩
/-- A list of changes that came in. -/
def okC (l : List Ch) : Prop := l.length * 16 ≤ 140737488351232
end Go.Proofs.Ytpfcljhbamnghab.Wt
namespace Go.Proofs.Ytpfcljhbamnghab.Pl
open Go Go.Maps
set_option linter.unusedVariables false
set_option linter.unusedSimpArgs false
def chK (l : List Ch) (k : Nat) : Lit := .int .i64 (el l k).1
def chV (l : List Ch) (k : Nat) : DataW Unit := .lit (.int .i64 (el l k).2)
/-- The first k changes, a later one in place of an elder one. -/
def chM (l : List Ch) : Nat → DataW Unit
  | 0 => .map []
  | k + 1 => (chM l k).put (chK l k) (chV l k)
theorem chK_key (l : List Ch) (k : Nat) : WideAt.IsKeyLit (chK l k) := trivial
theorem chM_tidy (l : List Ch) : ∀ k, Tidy (chM l k)
  | 0 => tidy_empty
  | k + 1 => (chM_tidy l k).put (chK_key l k) _
theorem chM_look (l : List Ch) (x : Int) : ∀ k,
    (has (chM l k) (.int .i64 x) = false ∧ ∀ j, j < k → (el l j).1 ≠ x) ∨ (has (chM l k) (.int .i64 x) = true ∧ ∃ j, j < k ∧ (el l j).1 = x ∧ ∀ z, (chM l k).atKey (.int .i64 x) z = chV l j)
  | 0 => .inl ⟨rfl, fun j h => absurd h (Nat.not_lt_zero _)⟩
  | k + 1 => by
    by_cases he : (el l k).1 = x
    · subst he
      exact .inr ⟨has_put_same (chM_tidy l k).isMap (chK_key l k) _, k, Nat.lt_succ_self _, rfl, fun z => atKey_put_same (chM_tidy l k).isMap (chK_key l k) _ _⟩
    · have he' : Lit.int .i64 x ≠ chK l k := fun e => he (Lit.int.inj e).2.symm
      rcases chM_look l x k with ⟨h1, h2⟩ | ⟨h1, j, h2, h3, h4⟩
      · refine .inl ⟨(has_put_other he' _).trans h1, fun j hj => ?_⟩
        rcases Nat.lt_succ_iff_lt_or_eq.1 hj with h | h
        · exact h2 j h
        · subst h; exact he
      · exact .inr ⟨(has_put_other he' _).trans h1, j, by omega, h3, fun z => (atKey_put_other he' _ _).trans (h4 z)⟩
theorem chM_size (l : List Ch) : ∀ k,
    size (chM l k) ≤ k ∧ ((∀ i j, j < i → i < k → (el l i).1 ≠ (el l j).1) → size (chM l k) = k) ∧ ((∃ i j, j < i ∧ i < k ∧ (el l i).1 = (el l j).1) → size (chM l k) < k)
  | 0 => ⟨Nat.le_refl _, fun _ => rfl, fun ⟨i, j, _, h, _⟩ => absurd h (Nat.not_lt_zero _)⟩
  | k + 1 => by
    obtain ⟨h1, h2, h3⟩ := chM_size l k
    have hs : size (chM l (k + 1)) = if has (chM l k) (chK l k) then size (chM l k) else size (chM l k) + 1 := size_put (chM_tidy l k) _
    rcases chM_look l (el l k).1 k with ⟨h4, h5⟩ | ⟨h4, j, h5, h6, _⟩
    · rw [chK, h4] at hs
      simp at hs
      refine ⟨by omega, fun h => ?_, fun ⟨i, j, hj, hi, e⟩ => ?_⟩
      · rw [hs, h2 (fun i j hj hi => h i j hj (by omega))]
      · rcases Nat.lt_succ_iff_lt_or_eq.1 hi with h | h
        · have := h3 ⟨i, j, hj, h, e⟩; omega
        · subst h; exact absurd e.symm (h5 j hj)
    · rw [chK, h4] at hs
      simp at hs
      refine ⟨by omega, fun h => absurd h6.symm (h k j h5 (Nat.lt_succ_self _)), fun _ => by omega⟩
/-- Two changes share what they come from just where fewer keys are left. -/
theorem chM_twice (l : List Ch) : size (chM l l.length) < l.length ↔ twcB l = true := by
  obtain ⟨h1, h2, h3⟩ := chM_size l l.length
  constructor
  · intro h
    rcases Bool.eq_false_or_eq_true (twcB l) with g | g
    · exact g
    · have := h2 (fun i j hj hi e => by
        have := (twc_iff l).2 ⟨i, hi, j, hj, e⟩
        rw [g] at this; cases this)
      omega
  · intro h
    obtain ⟨i, hi, j, hj, e⟩ := (twc_iff l).1 h
    exact h3 ⟨i, j, hj, hi, e⟩
theorem once_of {l : List Ch} (h : twcB l = false) {i j : Nat} (hi : i < l.length) (hj : j < l.length) (e : (el l i).1 = (el l j).1) : i = j := by
  rcases Nat.lt_trichotomy i j with g | g | g
  · rw [(twc_iff l).2 ⟨j, hj, i, g, e.symm⟩] at h; cases h
  · exact g
  · rw [(twc_iff l).2 ⟨i, hi, j, g, e⟩] at h; cases h
theorem chg_at {l : List Ch} (h : twcB l = false) {i : Nat} (hi : i < l.length) : chgF l (el l i).1 = (el l i).2 :=
  chg_hit hi (fun j hj e => by have := once_of h (show j < l.length by omega) hi e; omega) rfl
theorem flt_small {l : List Ch} (h : ¬ 50 < l.length) (ha : ∀ j, j < l.length → chB (el l j) = true) : fltC l = if twcB l = true then 10 else 0 := by
  unfold fltC
  rw [if_neg h, if_neg (all_yes ha)]
theorem flt_zero {l : List Ch} (h : fltC l = 0) : ¬ 50 < l.length ∧ (∀ j, j < l.length → chB (el l j) = true) ∧ twcB l = false := by
  have h50 := flt_len h
  have ha : ∀ j, j < l.length → chB (el l j) = true := fun j hj => by
    rcases Bool.eq_false_or_eq_true (chB (el l j)) with g | g
    · exact g
    · rw [flt_range (by omega) hj g] at h; cases h
  refine ⟨by omega, ha, ?_⟩
  rw [flt_small (by omega) ha] at h
  rcases Bool.eq_false_or_eq_true (twcB l) with g | g
  · rw [if_pos g] at h; cases h
  · exact g
end Go.Proofs.Ytpfcljhbamnghab.Pl
namespace Go.Proofs.Ytpfcljhbamnghab.Wt
open Go.ChangeShapes Go.WideShapes Go.ChangeAt Go.RowKit Go.Maps
open Go.Proofs.Ytpfcljhbamnghab.Pl
set_option linter.unusedVariables false
set_option linter.unusedSimpArgs false
theorem lawCh : Keyed Try.prog 3 := int_keyed Try.underlying3
def OwnC (w : World) (m n : Nat) (D : DataW Unit) : Prop := w.ownsMap Try.prog 3 (plainElem Try.prog 3) m n D
theorem OwnC.next {w : World} {m k : Nat} {l : List Ch} (h : OwnC w m k (chM l k)) (hk : k < 1000) (h0 : (Lit.int .i64 (el l k).1).wf = true) (h1 : (Lit.int .i64 (el l k).2).wf = true) :
    ∃ w', (Instr.mapUpdate 77 (.map (some m)) (.int .i64 (el l k).1) (.int .i64 (el l k).2)).run Try.prog w = .ok () w' ∧ OwnC w' m (k + 1) (chM l (k + 1)) ∧ w.grownBy w' (some m) :=
  World.ownsMap.update (R := plainElem Try.prog 3) h lawCh Try.underlying77 (by unfold maxLen; omega) (keyOf_int_mk Try.underlying3 h0) (plainElem_int Try.underlying3 h1)
theorem zeroCh (w : World) : (zeroValue 3).run Try.prog w = .ok (.int .i64 0) w := by kernel_rfl
set_option maxRecDepth 100000 in
theorem look_ch {w : World} {m n : Nat} {l : List Ch} (h : OwnC w m n (chM l l.length)) (ht : twcB l = false) (x : Int) (hs : (Lit.int .i64 x).wf = true) :
    (Instr.lookup 77 (.map (some m)) (.int .i64 x) true).run Try.prog w = .ok (.tuple #[.int .i64 (chgF l x), .bool true]) w ∨
    (chgF l x = x ∧ (Instr.lookup 77 (.map (some m)) (.int .i64 x) true).run Try.prog w = .ok (.tuple #[.int .i64 0, .bool false]) w) := by
  obtain ⟨v, ps, hr, hv⟩ := World.ownsMap.look_ok h lawCh Try.underlying77 (zeroCh w) (plainElem_int Try.underlying3 (by decide)) (keyOf_int_mk Try.underlying3 hs)
  obtain ⟨c, rfl, hc, _⟩ := plainElem_int_inv Try.underlying3 hv
  have hc' := congrArg Prod.fst hc
  simp only at hc'
  rcases chM_look l x l.length with ⟨h1, h2⟩ | ⟨h1, j, hj, h2, h3⟩
  · right
    refine ⟨chg_none h2, ?_⟩
    have e := atKey_of_not_has h1 (DataW.lit (.int .i64 0))
    rw [e] at hc'
    rw [h1] at hr
    injection hc' with e1
    injection e1 with _ e2
    rw [← e2] at hr
    exact hr
  · left
    have e := h3 (DataW.lit (.int .i64 0))
    simp only [chV] at e
    rw [e] at hc'
    rw [h1] at hr
    injection hc' with e1
    injection e1 with _ e2
    rw [← e2, ← chg_at ht hj, h2] at hr
    exact hr
set_option maxRecDepth 100000 in
/-- What a label becomes. -/
theorem of_any (m n : Nat) (l : List Ch) (x : Int) (w : World) (h : OwnC w m n (chM l l.length)) (ht : twcB l = false) (hs : (Lit.int .i64 x).wf = true) :
    Calls Try.prog 47 #[.map (some m), .int .i64 x] w fun e w' => e = .returned (.int .i64 (chgF l x)) ∧ w = w' := by
  rcases look_ch h ht x hs with hr | ⟨he, hr⟩
  · clear h
    generalize chgF l x = y at *
    go_enter Try.func47, Try.ntmps47
    go_wp2
    go_ret
    exact ⟨rfl, rfl⟩
  · clear h
    rw [he]
    clear he
    go_enter Try.func47, Try.ntmps47
    go_wp2
    go_ret
    exact ⟨rfl, rfl⟩
set_option maxRecDepth 100000 in
set_option maxHeartbeats 800000 in
theorem chInRange_any (c : Ch) (w : World) (r : Bool) (hr : chB c = r) :
    Calls Try.prog 62 #[.agg #[.int .i64 c.1, .int .i64 c.2]] w fun e w' => e = .returned (.bool r) ∧ Below w.heap.size w w' := by
  obtain ⟨x, y⟩ := c
  simp only [chB, inB] at hr
  have H : Hid ((decide (1 ≤ x) && decide (x ≤ 1000) && (decide (0 ≤ y) && decide (y ≤ 1000))) = r) := hr
  clear hr
  have ways : ¬ (1 : Int) ≤ x ∨ ((1 : Int) ≤ x ∧ ¬ x ≤ 1000) ∨ ((1 : Int) ≤ x ∧ x ≤ 1000 ∧ ¬ (0 : Int) ≤ y) ∨ ((1 : Int) ≤ x ∧ x ≤ 1000 ∧ (0 : Int) ≤ y ∧ ¬ y ≤ 1000) ∨ ((1 : Int) ≤ x ∧ x ≤ 1000 ∧ (0 : Int) ≤ y ∧ y ≤ 1000) := by omega
  rcases ways with h1 | ⟨h1, h2⟩ | ⟨h1, h2, h3⟩ | ⟨h1, h2, h3, h4⟩ | ⟨h1, h2, h3, h4⟩
  · have hr : r = false := by rw [← H.out]; simp [h1]
    subst hr
    clear H
    go_enter Try.func62, Try.ntmps62
    go_wp2
    go_ret
    exact ⟨rfl, by go_grown⟩
  · have hr : r = false := by rw [← H.out]; simp [h2]
    subst hr
    clear H
    go_enter Try.func62, Try.ntmps62
    go_wp2
    go_ret
    exact ⟨rfl, by go_grown⟩
  · have hr : r = false := by rw [← H.out]; simp [h3]
    subst hr
    clear H
    go_enter Try.func62, Try.ntmps62
    go_wp2
    go_ret
    exact ⟨rfl, by go_grown⟩
  · have hr : r = false := by rw [← H.out]; simp [h4]
    subst hr
    clear H
    go_enter Try.func62, Try.ntmps62
    go_wp2
    go_ret
    exact ⟨rfl, by go_grown⟩
  · have hr : r = true := by rw [← H.out]; simp [h1, h2, h3, h4]
    subst hr
    clear H
    go_enter Try.func62, Try.ntmps62
    go_wp2
    go_ret
    exact ⟨rfl, by go_grown⟩
end Go.Proofs.Ytpfcljhbamnghab.Wt
namespace Go.Proofs.Ytpfcljhbamnghab.Wt
open Go.ChangeShapes Go.WideShapes Go.ChangeAt Go.RowKit Go.Maps
open Go.Proofs.Ytpfcljhbamnghab.Pl
set_option linter.unusedVariables false
set_option linter.unusedSimpArgs false
/-- What changesOf answers. -/
def ChsRes (l : List Ch) (w : World) (e : Ending) (w' : World) : Prop :=
  ((fltC l ≠ 0 ∧ e = .returned (.tuple #[.map none, .int .i64 (fltC l)])) ∨ (fltC l = 0 ∧ ∃ mb, e = .returned (.tuple #[.map (some mb), .int .i64 0]) ∧ w.heap.size ≤ mb ∧ OwnC w' mb l.length (chM l l.length))) ∧ Below w.heap.size w w'
theorem changesOf_long (v : Value) (l : List Ch) (w : World) (h : Chs w v l) (hl : l.length ≤ 8796093022208) (h50 : 50 < l.length) :
    Calls Try.prog 45 #[v] w fun e w' => ChsRes l w e w' := by
  obtain ⟨a, cap, rfl⟩ := h.sl
  have HR : Hid (fltC l = 1) := flt_long h50
  unfold ChsRes
  rw [HR.out]
  have h50' : (50 : Int) < (l.length : Int) := by omega
  clear h
  generalize l.length = n at *
  go_enter Try.func45, Try.ntmps45
  go_wp2
  go_ret2
  exact ⟨.inl ⟨by simp, rfl⟩, Below.refl _ _⟩
theorem chB_wf {c : Ch} (h : chB c = true) : (Lit.int .i64 c.1).wf = true ∧ (Lit.int .i64 c.2).wf = true := by
  simp only [chB, inB, Bool.and_eq_true, decide_eq_true_eq] at h
  exact ⟨WalkArith.wf_i64 (by omega), WalkArith.wf_i64 (by omega)⟩
set_option maxRecDepth 100000 in
set_option maxHeartbeats 1600000 in
theorem changesOf_short (v : Value) (l : List Ch) (w : World) (h : Chs w v l) (h50 : ¬ 50 < l.length) :
    Calls Try.prog 45 #[v] w fun e w' => ChsRes l w e w' := by
  obtain ⟨a, cap, rfl, hc⟩ := h.get
  have HC : Hid (∀ j, j < l.length → ∃ b off, a = some ⟨b, off, none⟩ ∧ b < w.heap.size ∧ w.cell? ⟨b, off + j * 2, none⟩ = some (.int .i64 (el l j).1) ∧ w.cell? ⟨b, off + j * 2 + 1, none⟩ = some (.int .i64 (el l j).2)) := hc
  have HR : Hid (∀ i, i < l.length → chB (el l i) = false → fltC l = 2) := fun i hi hb => flt_range h50 hi hb
  have HF : Hid ((∀ j, j < l.length → chB (el l j) = true) → fltC l = if size (chM l l.length) < l.length then 10 else 0) := fun ha => by
    rw [flt_small h50 ha]
    by_cases g : twcB l = true
    · rw [if_pos g, if_pos ((chM_twice l).2 g)]
    · rw [if_neg g, if_neg (fun x => g ((chM_twice l).1 x))]
  have HSZ : Hid (size (chM l l.length) ≤ l.length) := (chM_size l l.length).1
  have h50' : ¬ (50 : Int) < (l.length : Int) := by omega
  unfold ChsRes
  clear h hc
  generalize fltC l = r at *
  generalize l.length = n at *
  have hmk : ∀ W : World, (Instr.makeMap 77 (some (.int .i64 (n : Int)))).run Try.prog W = .ok (.map (some W.heap.size)) (W.alloc (.map #[] 0)) := fun W => run_makeMap_hint Try.underlying77 _ W
  go_enter Try.func45, Try.ntmps45
  go_wp2
  go_loopw [14] (fun i wr => ∃ k : Nat, k ≤ n ∧ i = .int .i64 k ∧ Hid (∀ j, j < k → chB (el l j) = true) ∧ Hid (Below w.heap.size w wr)) (fun i _ => n - (intOf i).toNat)
  case atStart => exact ⟨0, Nat.zero_le _, rfl, fun j hj => absurd hj (by omega), Below.refl _ _⟩
  case round =>
    obtain ⟨k, hk, rfl, hall, hb⟩ := hrel
    obtain ⟨w2, hw2⟩ : ∃ w2, w2 = wr := ⟨_, rfl⟩
    subst hw2
    by_cases hlt : k < n
    · have hlt' : (k : Int) < (n : Int) := by omega
      have hk0 : (0 : Int) ≤ (k : Int) := by omega
      obtain ⟨b, off, rfl, hbl, g0, g1⟩ := HC.out k hlt
      have g0 := (hb.out.cell (p := ⟨b, off + k * 2, none⟩) hbl).trans g0
      have g1 := (hb.out.cell (p := ⟨b, off + k * 2 + 1, none⟩) hbl).trans g1
      have HRk := hidP (HR.out k hlt)
      have HS : Hid (chB (el l k) = true → ∀ j, j < k + 1 → chB (el l j) = true) := fun g j hj => by
        by_cases e : j = k
        · rw [e]; exact g
        · exact hall.out j (by omega)
      generalize el l k = p at *
      obtain ⟨p0, p1⟩ := p
      simp only at g0 g1
      have HB0 : Hid (Below w.heap.size w (w2.alloc (.cells #[.int .i64 p0, .int .i64 p1] 43))) := hb.out.alloc hb.out.size _
      rcases Bool.eq_false_or_eq_true (chB (p0, p1)) with e1 | e1
      · have E1 := hidP e1
        have HS' := hidP (HS.out e1)
        clear HS HRk e1
        go_wp2_with (first | (go_at_call 62; (with_reducible refine (chInRange_any (p0, p1) _ _ E1.out).mono ?_); rintro e w3 ⟨rfl, hb3⟩; have HB3 := hidP (HB0.out.trans (hb3.mono HB0.out.size)); clear hb3))
        go_roundw
        case rel => exact ⟨k + 1, by omega, by go_num, HS', HB3⟩
        case measure => simp [intOf]; omega
      · have E1 := hidP e1
        have hr : r = 2 := HRk.out e1
        clear HS HRk e1 HF HR
        subst hr
        go_wp2_with (first | (go_at_call 62; (with_reducible refine (chInRange_any (p0, p1) _ _ E1.out).mono ?_); rintro e w3 ⟨rfl, hb3⟩; have HB3 := hidP (HB0.out.trans (hb3.mono HB0.out.size)); clear hb3))
        go_ret2
        exact ⟨.inl ⟨by simp, rfl⟩, HB3.out⟩
    · have hlt' : ¬ (k : Int) < (n : Int) := by omega
      have hkn : k = n := by omega
      have HALL : Hid (∀ j, j < n → chB (el l j) = true) := fun j hj => hall.out j (by omega)
      clear hall hkn
      go_wp2
      go_loopw [27] (fun i wr => ∃ k : Nat, k ≤ n ∧ i = .int .i64 k ∧ Hid (OwnC wr w2.heap.size k (chM l k)) ∧ Hid (Below w2.heap.size w2 wr)) (fun i _ => n - (intOf i).toNat)
      case atStart => exact ⟨0, Nat.zero_le _, rfl, World.ownsMap_made _ _ _ _, (Below.refl _ _).alloc (Nat.le_refl _) _⟩
      case round =>
        obtain ⟨k, hk, rfl, how, hb2⟩ := hrel
        obtain ⟨w3, hw3⟩ : ∃ w3, w3 = wr := ⟨_, rfl⟩
        subst hw3
        by_cases hlt : k < n
        · have hlt' : (k : Int) < (n : Int) := by omega
          have hk0 : (0 : Int) ≤ (k : Int) := by omega
          obtain ⟨b, off, rfl, hbl, g0, g1⟩ := HC.out k hlt
          have hbw := hb.out.trans (hb2.out.mono hb.out.size)
          have g0 := (hbw.cell (p := ⟨b, off + k * 2, none⟩) hbl).trans g0
          have g1 := (hbw.cell (p := ⟨b, off + k * 2 + 1, none⟩) hbl).trans g1
          obtain ⟨q0, q1⟩ := chB_wf (HALL.out k hlt)
          obtain ⟨w4, hrun, how4, hg4⟩ := OwnC.next (World.ownsMap.alloc how.out (.cells #[.int .i64 (el l k).1, .int .i64 (el l k).2] 43)) (by omega) q0 q1
          have HO4 := hidP how4
          have HB4 : Hid (Below w2.heap.size w2 w4) := (hb2.out.alloc hb2.out.size _).grown hg4 (by have := hb2.out.size; simp; omega) (fun j hj => by cases hj; exact Nat.le_refl _)
          clear how4 hg4 hbw q0 q1
          generalize (el l k).1 = p0 at *
          generalize (el l k).2 = p1 at *
          go_wp2
          go_roundw
          case rel => exact ⟨k + 1, by omega, by go_num, HO4, HB4⟩
          case measure => simp [intOf]; omega
        · have hlt' : ¬ (k : Int) < (n : Int) := by omega
          obtain rfl : k = n := by omega
          have hr := HF.out HALL.out
          have HO := hidP how.out
          have HB := hidP (hb.out.trans (hb2.out.mono hb.out.size))
          have hs2 := hb.out.size
          have hln : ∀ ty : TypeId, (Builtin.len_ #[77] ty #[.map (some w2.heap.size)]).run Try.prog w3 = .ok (.int .i64 (size (chM l k))) w3 := fun ty => World.ownsMap.len how.out Try.underlying77 ty
          have hsz := HSZ.out
          clear how hb2 HF HR
          generalize hS : size (chM l k) = sz at *
          by_cases hlt3 : sz < k
          · have hlt3' : (sz : Int) < (k : Int) := by omega
            rw [if_pos hlt3] at hr
            subst hr
            go_wp2
            go_ret2
            exact ⟨rfl, HB.out⟩
          · have hlt3' : ¬ (sz : Int) < (k : Int) := by omega
            rw [if_neg hlt3] at hr
            subst hr
            go_wp2
            go_ret2
            exact ⟨⟨_, rfl, hs2, HO.out⟩, HB.out⟩
theorem changesOf_any (v : Value) (l : List Ch) (w : World) (h : Chs w v l) (hok : okC l) :
    Calls Try.prog 45 #[v] w fun e w' => ChsRes l w e w' := by
  by_cases h50 : 50 < l.length
  · exact changesOf_long v l w h (by unfold okC at hok; omega) h50
  · exact changesOf_short v l w h h50
end Go.Proofs.Ytpfcljhbamnghab.Wt
