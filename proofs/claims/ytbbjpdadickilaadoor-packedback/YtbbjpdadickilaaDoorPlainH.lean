/- Plain facts on the text of a table of names. -/
import Derived.Test.YtbbjpdadickilaaDoorPlainM
import Derived.Lib.ItoaNum
import Derived.Lib.ItoaLen
namespace Go.Proofs.YtbbjpdadickilaaDoor.Pl
open Go
def lineL (p : Nm) : List UInt8 := p.1.data.toList ++ [32] ++ Lib.itoa p.2 ++ [10]
def textTo (ns : List Nm) : Nat → List UInt8
  | 0 => []
  | k + 1 => textTo ns k ++ lineL (nm ns k)
def decS (n : Int) : ByteArray := ⟨(Lib.itoa n).toArray⟩
def textS (l : List UInt8) : ByteArray := ⟨l.toArray⟩
theorem itoa_short {n : Int} (h : labB n = true) : (Lib.itoa n).length ≤ 20 := by
  simp [labB] at h
  obtain ⟨u, rfl⟩ := Int.eq_ofNat_of_zero_le (show (0 : Int) ≤ n by omega)
  have e : Lib.itoa (u : Int) = Lib.decDigits u := by unfold Lib.itoa; rw [if_neg (by omega)]; simp
  rw [e, Lib.decDigits_length]
  exact Lib.nDigits_le20 u (by omega)
theorem decS_size {n : Int} (h : labB n = true) : (decS n).size ≤ 20 := itoa_short h
theorem lab_of {ns : List Nm} {n k : Nat} (h : labsTo ns n = true) (hk : k < n) : labB (nm ns k).2 = true := by
  simp only [labsTo, List.all_eq_true, List.mem_range] at h
  exact h k hk
theorem text_of {ns : List Nm} {n k : Nat} (h : textsTo ns n = true) (hk : k < n) : textB (nm ns k).1 = true := by
  simp only [textsTo, List.all_eq_true, List.mem_range] at h
  exact h k hk
theorem text_short {s : ByteArray} (h : textB s = true) : s.size ≤ 12 := by
  simp [textB] at h
  omega
theorem lineL_short {p : Nm} (h1 : textB p.1 = true) (h2 : labB p.2 = true) : (lineL p).length ≤ 34 := by
  have a := text_short h1
  have b := itoa_short h2
  have e : p.1.data.toList.length = p.1.size := by simp
  simp only [lineL, List.length_append, List.length_cons, List.length_nil]
  omega
theorem textTo_short {ns : List Nm} {n : Nat} (h1 : labsTo ns n = true) (h2 : textsTo ns n = true) : ∀ k, k ≤ n → (textTo ns k).length ≤ 34 * k
  | 0, _ => by simp [textTo]
  | k + 1, hk => by
    have := textTo_short h1 h2 k (by omega)
    have := lineL_short (text_of h2 (show k < n by omega)) (lab_of h1 (show k < n by omega))
    simp only [textTo, List.length_append]
    omega
theorem bytes_inj2 {a b : ByteArray} (h : a.data.toList = b.data.toList) : a = b := by cases a; cases b; simp_all
/-- The line as the program makes it. -/
theorem line_eq (x : ByteArray) (y : Int) : x ++ ⟨#[32]⟩ ++ decS y ++ ⟨#[10]⟩ = textS (lineL (x, y)) := by
  apply bytes_inj2
  simp [textS, lineL, decS]
/-- The text as the reference makes it. -/
theorem line_eq2 (l : List UInt8) (x : ByteArray) (y : Int) : textS l ++ x ++ ⟨#[32]⟩ ++ decS y ++ ⟨#[10]⟩ = textS (l ++ lineL (x, y)) := by
  apply bytes_inj2
  simp [textS, lineL, decS]
def showS (ns : List Nm) : ByteArray := textS (textTo ns ns.length)
end Go.Proofs.YtbbjpdadickilaaDoor.Pl
