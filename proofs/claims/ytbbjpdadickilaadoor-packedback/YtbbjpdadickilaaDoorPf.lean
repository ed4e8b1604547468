/- A machine as a text: the text of its first states, and how long it is (no function in sight). -/
import Derived.Test.YtbbjpdadickilaaDoorJ9c
import Derived.Test.YtbbjpdadickilaaDoorPlainH
import Derived.Test.YtbbjpdadickilaaDoorSf
namespace Go.Proofs.YtbbjpdadickilaaDoor.Pl
theorem textS_app (a b : List UInt8) : textS a ++ textS b = textS (a ++ b) := by
  apply bytes_inj2
  simp [textS]
theorem fin_show {f : Int} (h : finB f = true) : Wt.showR f = (textS (finT f), 0) := by
  by_cases e : f = 1000000001
  · subst e; rw [Wt.showR_inf]; rfl
  · simp [finB, inB, e] at h
    rw [Wt.showR_num (wtB_true.2 (.inr h)) e]
    unfold finT decT
    rw [if_neg e]
    have : Lib.itoa f = Lib.decDigits f.toNat := by
      obtain ⟨u, rfl⟩ := Int.eq_ofNat_of_zero_le h.1
      unfold Lib.itoa; rw [if_neg (by omega)]
    rw [this]; rfl
/-- The text of the first k states. -/
def textTk (z : Int) (l : List St) (k : Nat) : List UInt8 := headT z ++ (l.take k).flatMap txtS
def textTa (z : Int) (l : List St) (k j : Nat) : List UInt8 := textTk z l k ++ stT (el l k).1 ++ ((el l k).2.take j).flatMap arcT
theorem textTk_all (z : Int) (l : List St) : textTk z l l.length = textM (z, l) := by unfold textTk; rw [List.take_length, textM_eq]
theorem textTk_succ {z : Int} {l : List St} {k : Nat} (h : k < l.length) : textTk z l (k + 1) = textTa z l k (el l k).2.length := by
  unfold textTk textTa textTk
  rw [states_take h, List.take_length]
  simp [txtS]
theorem textTa_succ {z : Int} {l : List St} {k j : Nat} (h : j < (el l k).2.length) : textTa z l k (j + 1) = textTa z l k j ++ arcT (el (el l k).2 j) := by
  unfold textTa
  rw [arcs_take h]
  simp
theorem textTa_zero (z : Int) (l : List St) (k : Nat) : textTa z l k 0 = textTk z l k ++ stT (el l k).1 := by simp [textTa]
theorem textM_short {z : Int} {l : List St} (h : faultM (z, l) = 0) : (textM (z, l)).length ≤ 20000 := by
  have h1 := right_size h
  have h2 := (faultM_zero h).2
  simp only [rangeB, Bool.and_eq_true, inB, decide_eq_true_eq] at h2
  rw [textM_eq, List.length_append]
  have h3 := headT_short (z := z) (by omega)
  have h4 := states_short h1.1 (l := l) (fun s hs => by
    obtain ⟨j, hj, rfl⟩ := mem_el hs
    have h5 := right_st h hj
    exact ⟨h5.1, fun a ha => List.all_eq_true.1 h5.2 a ha⟩)
  simp only
  omega
theorem textTa_le {z : Int} {l : List St} {k j : Nat} (hk : k < l.length) : (textTa z l k j).length ≤ (textM (z, l)).length := by
  have h1 : (textTa z l k j).length ≤ (textTa z l k (el l k).2.length).length := by
    unfold textTa
    rw [List.length_append, List.length_append (bs := ((el l k).2.take (el l k).2.length).flatMap arcT), List.take_length]
    have : (((el l k).2.take j).flatMap arcT).length ≤ ((el l k).2.flatMap arcT).length := by
      conv => rhs; rw [← List.take_append_drop j (el l k).2, List.flatMap_append, List.length_append]
      omega
    omega
  rw [← textTk_succ hk] at h1
  refine Nat.le_trans h1 ?_
  rw [← textTk_all]
  unfold textTk
  rw [List.length_append, List.length_append, List.take_length]
  have : ((l.take (k + 1)).flatMap txtS).length ≤ (l.flatMap txtS).length := by
    conv => rhs; rw [← List.take_append_drop (k + 1) l, List.flatMap_append, List.length_append]
    omega
  omega
theorem textTk_le {z : Int} {l : List St} {k : Nat} (hk : k < l.length) : (textTk z l k).length ≤ (textM (z, l)).length := by
  have h1 := textTa_le (z := z) (j := 0) hk
  rw [textTa_zero, List.length_append] at h1
  omega
end Go.Proofs.YtbbjpdadickilaaDoor.Pl
