/- A machine without its empty arcs (no program in sight). -/
import Derived.Test.YtjpfpdbhdcopbaaPlainEb
import Derived.Test.YtjpfpdbhdcopbaaPlainA
import Derived.Test.YtjpfpdbhdcopbaaPlainRa
namespace Go.Proofs.Ytjpfpdbhdcopbaa.Pl
set_option linter.unusedVariables false
set_option linter.unusedSimpArgs false
def hwA (c : Int) (a : Ar) : Ar := (a.1, a.2.1, c + a.2.2.1, a.2.2.2)
def remFin (H : Nat → Nat → Int) (l : List St) (q : Nat) : Nat → Int
  | 0 => noneI
  | p + 1 => if H q p ≠ noneI ∧ (el l p).1 ≠ 1000000001 ∧ H q p + (el l p).1 < remFin H l q p then H q p + (el l p).1 else remFin H l q p
def remOf (c : Int) (ar : List Ar) : List Ar := (ar.filter fun a => !empA a).map (hwA c)
def remArc (H : Nat → Nat → Int) (l : List St) (q : Nat) : Nat → List Ar
  | 0 => []
  | p + 1 => remArc H l q p ++ (if H q p = noneI then [] else remOf (H q p) (el l p).2)
def remL (H : Nat → Nat → Int) (l : List St) (q : Nat) : List Ar := lightL (sortS false (remArc H l q l.length))
def remS (H : Nat → Nat → Int) (l : List St) (q : Nat) : St := (tldN (remFin H l q l.length), remL H l q)
def bigA (a : Ar) : Bool := decide (1000000000 < a.2.2.1)
def ovB (H : Nat → Nat → Int) (l : List St) (q : Nat) : Bool := decide (tldE (remFin H l q l.length) ≠ 0) || (remL H l q).any bigA
def ovTo (H : Nat → Nat → Int) (l : List St) : Nat → Bool
  | 0 => false
  | q + 1 => ovTo H l q || ovB H l q
def remM (H : Nat → Nat → Int) (m : Mc) : Mc := (m.1, (List.range m.2.length).map (remS H m.2))
/-- What is answered. -/
def remR (H : Nat → Nat → Int) (m : Mc) : Mc := if faultM m ≠ 0 then (0, []) else if ovTo H m.2 m.2.length = true then (0, []) else fitM (remM H m)
def remE (H : Nat → Nat → Int) (m : Mc) : Int := if faultM m ≠ 0 then faultM m else if ovTo H m.2 m.2.length = true then 4 else fitE (remM H m)
theorem remOf_take {c : Int} {ar : List Ar} {i : Nat} (h : i < ar.length) : remOf c (ar.take (i + 1)) = remOf c (ar.take i) ++ (if empA (el ar i) = true then [] else [hwA c (el ar i)]) := by
  unfold remOf
  rw [take_el h, List.filter_append, List.map_append]
  congr 1
  cases hb : empA (el ar i) <;> simp [hb]
theorem remOf_le (c : Int) (ar : List Ar) : (remOf c ar).length ≤ ar.length := by
  unfold remOf
  rw [List.length_map]
  exact List.length_filter_le _ _
theorem remArc_le (H : Nat → Nat → Int) (l : List St) (q : Nat) : ∀ p, p ≤ l.length → (remArc H l q p).length ≤ arcN (l.take p)
  | 0, _ => by simp [remArc]
  | p + 1, h => by
    have h1 := remArc_le H l q p (by omega)
    have h2 := remOf_le (H q p) (el l p).2
    have h3 := arcN_take (show p < l.length by omega)
    simp only [remArc, List.length_append]
    split <;> simp <;> omega
theorem remL_le (H : Nat → Nat → Int) (l : List St) (q : Nat) : (remL H l q).length ≤ arcN l := by
  have h1 := lightL_le (sortS false (remArc H l q l.length))
  have h2 := sortS_length false (remArc H l q l.length)
  have h3 := remArc_le H l q l.length (Nat.le_refl _)
  rw [List.take_length] at h3
  unfold remL
  omega
theorem remFin_congr {H K : Nat → Nat → Int} {l : List St} {q : Nat} : ∀ {p : Nat}, (∀ p', p' < p → H q p' = K q p') → remFin H l q p = remFin K l q p
  | 0, _ => rfl
  | p + 1, h => by
    have h1 := remFin_congr (l := l) (p := p) (fun p' hp => h p' (by omega))
    simp only [remFin]
    rw [h p (by omega), h1]
theorem remArc_congr {H K : Nat → Nat → Int} {l : List St} {q : Nat} : ∀ {p : Nat}, (∀ p', p' < p → H q p' = K q p') → remArc H l q p = remArc K l q p
  | 0, _ => rfl
  | p + 1, h => by
    have h1 := remArc_congr (l := l) (p := p) (fun p' hp => h p' (by omega))
    simp only [remArc]
    rw [h p (by omega), h1]
theorem remS_congr {H K : Nat → Nat → Int} {l : List St} {q : Nat} (h : ∀ p, p < l.length → H q p = K q p) : remS H l q = remS K l q ∧ ovB H l q = ovB K l q := by
  unfold remS ovB remL
  rw [remFin_congr h, remArc_congr h]
  exact ⟨rfl, rfl⟩
theorem ovTo_congr {H K : Nat → Nat → Int} {l : List St} : ∀ {n : Nat}, n ≤ l.length → (∀ q p, q < l.length → p < l.length → H q p = K q p) → ovTo H l n = ovTo K l n
  | 0, _, _ => rfl
  | n + 1, hn, h => by
    simp only [ovTo]
    rw [ovTo_congr (n := n) (by omega) h, (remS_congr (fun p hp => h n p (by omega) hp)).2]
/-- There is but one table, so but one answer. -/
theorem rem_one {m : Mc} {H K : Nat → Nat → Int} (h : faultM m = 0 → HopT m H) (k : faultM m = 0 → HopT m K) : remR H m = remR K m ∧ remE H m = remE K m := by
  unfold remR remE
  by_cases h0 : faultM m = 0
  · have e : ∀ q p, q < m.2.length → p < m.2.length → H q p = K q p := fun q p hq hp => (h h0 q p hq hp).one (k h0 q p hq hp)
    have e1 : remM H m = remM K m := by
      unfold remM
      refine congrArg (Prod.mk m.1) (List.map_congr_left fun q hq => ?_)
      exact (remS_congr (fun p hp => e q p (by simpa using hq) hp)).1
    rw [ovTo_congr (Nat.le_refl _) e, e1]
    exact ⟨rfl, rfl⟩
  · rw [if_pos h0, if_pos h0, if_pos h0, if_pos h0]
    exact ⟨rfl, rfl⟩
theorem rem_len (H : Nat → Nat → Int) (m : Mc) : (remM H m).2.length = m.2.length := by simp [remM]
theorem rem_el (H : Nat → Nat → Int) (m : Mc) {q : Nat} (hq : q < m.2.length) : el (remM H m).2 q = remS H m.2 q := el_range_map _ hq
theorem rem_each {H : Nat → Nat → Int} {m : Mc} (h : faultM m = 0) : okM (remM H m) := by
  have h1 := (right_size (z := m.1) (l := m.2) h).1
  have h2 := (right_size (z := m.1) (l := m.2) h).2
  refine ⟨by rw [rem_len]; omega, fun j hj => ?_⟩
  rw [rem_len] at hj
  rw [rem_el H m hj]
  have := remL_le H m.2 j
  show (remL H m.2 j).length * 32 ≤ _
  omega
theorem remR_ok (H : Nat → Nat → Int) (m : Mc) : okM (remR H m) := by
  have hz : okM (0, []) := ⟨by simp, fun j hj => absurd hj (by simp)⟩
  unfold remR fitM
  split
  · exact hz
  · split
    · exact hz
    · split
      · rename_i h
        simp only [sizeB, Bool.and_eq_true, decide_eq_true_eq] at h
        exact small_ok (by omega) (by omega)
      · exact hz
theorem remS_snoc (H : Nat → Nat → Int) (l : List St) (q : Nat) : (List.range (q + 1)).map (remS H l) = (List.range q).map (remS H l) ++ [remS H l q] := by rw [List.range_succ, List.map_append]; rfl
theorem any_take {l : List Ar} {i : Nat} (h : i < l.length) (f : Ar → Bool) : (l.take (i + 1)).any f = ((l.take i).any f || f (el l i)) := by rw [take_el h]; simp
end Go.Proofs.Ytjpfpdbhdcopbaa.Pl
