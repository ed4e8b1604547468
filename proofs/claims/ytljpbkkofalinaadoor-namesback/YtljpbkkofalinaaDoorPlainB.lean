/- Plain facts on the tables that the keeping statements make: they are right. -/
import Derived.Test.YtljpbkkofalinaaDoorPlainM
namespace Go.Proofs.YtljpbkkofalinaaDoor.Pl
open Go
def tabT (i q : Nat) : ByteArray := ⟨[UInt8.ofNat (97 + i % 26), UInt8.ofNat (48 + i / 26), UInt8.ofNat (97 + q)].toArray⟩
def tabN (i q : Nat) : Nm := (tabT i q, 1 + 10 * (i : Int) % 1000 + (q : Int) % 10)
def tabL (q : Nat → Nat) (n : Nat) : List Nm := (List.range n).map fun i => tabN i (q i)
theorem tabL_length (q : Nat → Nat) (n : Nat) : (tabL q n).length = n := by simp [tabL]
theorem tabL_succ (q : Nat → Nat) (n : Nat) : tabL q (n + 1) = tabL q n ++ [tabN n (q n)] := by simp [tabL, List.range_succ]
theorem tabL_nm (q : Nat → Nat) (n i : Nat) (h : i < n) : nm (tabL q n) i = tabN i (q i) := by simp [nm, tabL, h]
theorem tabT_text : ∀ i, i < 100 → ∀ q, q < 10 → textB (tabT i q) = true := by decide +kernel
theorem tabT_size (i q : Nat) : (tabT i q).size = 3 := rfl
theorem tabT_inj {i j p q : Nat} (hi : i < 100) (hj : j < 100) (h : tabT i p = tabT j q) : i = j := by
  simp only [tabT, ByteArray.mk.injEq] at h
  have h' := congrArg Array.toList h
  simp only [List.cons.injEq] at h'
  have h1 := congrArg UInt8.toNat h'.1
  have h2 := congrArg UInt8.toNat h'.2.1
  simp at h1 h2
  omega
theorem labN_ok (i q : Nat) : labB (tabN i q).2 = true := by
  have h1 : (1 : Int) ≤ (tabN i q).2 := by show (1 : Int) ≤ 1 + 10 * (i : Int) % 1000 + (q : Int) % 10; omega
  have h2 : (tabN i q).2 ≤ 1000 := by show 1 + 10 * (i : Int) % 1000 + (q : Int) % 10 ≤ (1000 : Int); omega
  unfold labB
  rw [decide_eq_true h1, decide_eq_true h2]; rfl
theorem tab_right (q : Nat → Nat) (n : Nat) (hn : n ≤ 100) (hq : ∀ i, q i < 10) : faultR (tabL q n) = 0 := by
  have hl : labsTo (tabL q n) n = true := by
    simp only [labsTo, List.all_eq_true, List.mem_range]
    intro i hi
    rw [tabL_nm q n i hi]
    exact labN_ok i _
  have ht : textsTo (tabL q n) n = true := by
    simp only [textsTo, List.all_eq_true, List.mem_range]
    intro i hi
    rw [tabL_nm q n i hi]
    exact tabT_text i (by omega) _ (hq i)
  have h2 : twiceTo (tabL q n) n = false := by
    rw [twiceTo_false]
    intro i j hj hi
    rw [clash, tabL_nm q n i hi, tabL_nm q n j (by omega)]
    have := hq i
    have := hq j
    simp only [Bool.or_eq_false_iff, decide_eq_false_iff_not]
    refine ⟨fun e => ?_, fun e => ?_⟩
    · have := tabT_inj (by omega) (by omega) e; omega
    · simp only [tabN] at e; omega
  have e := tabL_length q n
  rw [fault_rest (by rw [e]; exact hn) (by rw [e]; exact hl) (by rw [e]; exact ht), e, h2]
  rfl
end Go.Proofs.YtljpbkkofalinaaDoor.Pl
