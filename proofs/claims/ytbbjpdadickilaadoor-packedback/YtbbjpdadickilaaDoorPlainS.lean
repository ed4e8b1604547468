/- Plain facts on texts of digits (no program in sight): which texts are numbers, and what number one is. -/
import Derived.WalkKit
namespace Go.Proofs.YtbbjpdadickilaaDoor.Pl
def bl (s : ByteArray) : List UInt8 := s.data.toList
theorem bl_length (s : ByteArray) : (bl s).length = s.size := rfl
theorem bl_get (s : ByteArray) (k : Nat) (h : k < s.size) : (bl s)[k]? = some s[k] := by
  have h' : k < (bl s).length := h
  rw [List.getElem?_eq_getElem h']; rfl
theorem bl_take (s : ByteArray) (k : Nat) (h : k < s.size) : (bl s).take (k + 1) = (bl s).take k ++ [s[k]] := by
  rw [List.take_succ_eq_append_getElem (by exact h)]; rfl

def digB (c : UInt8) : Bool := decide (48 ≤ (c.toNat : Int) ∧ (c.toNat : Int) ≤ 57)
theorem digB_true {c : UInt8} : digB c = true ↔ (48 ≤ (c.toNat : Int) ∧ (c.toNat : Int) ≤ 57) := by unfold digB; simp
theorem digB_false {c : UInt8} : digB c = false ↔ ¬ (48 ≤ (c.toNat : Int) ∧ (c.toNat : Int) ≤ 57) := by unfold digB; simp
/-- A nought ahead of other letters. -/
def nought (l : List UInt8) : Bool := l.head? == some 48 && decide (1 < l.length)
def numB (l : List UInt8) : Bool := !l.isEmpty && !nought l && l.all digB
def numV (l : List UInt8) : Int := l.foldl (fun n c => 10 * n + ((c.toNat : Int) - 48)) 0
theorem numV_snoc (l : List UInt8) (c : UInt8) : numV (l ++ [c]) = 10 * numV l + ((c.toNat : Int) - 48) := by simp [numV]
theorem all_snoc (l : List UInt8) (c : UInt8) : (l ++ [c]).all digB = (l.all digB && digB c) := by simp
theorem numV_bd (l : List UInt8) (h : l.all digB = true) : 0 ≤ numV l ∧ numV l < 10 ^ l.length := by
  have key : ∀ (k : Nat) (l : List UInt8), l.length = k → l.all digB = true → 0 ≤ numV l ∧ numV l < 10 ^ k := by
    intro k
    induction k with
    | zero =>
      intro l hl _
      obtain rfl := List.eq_nil_of_length_eq_zero hl
      decide
    | succ k ih =>
      intro l hl ha
      have hne : l ≠ [] := by intro e; rw [e] at hl; simp at hl
      have e := (List.dropLast_concat_getLast hne).symm
      rw [e, all_snoc, Bool.and_eq_true] at ha
      have := ih l.dropLast (by rw [List.length_dropLast, hl]; rfl) ha.1
      have hd := digB_true.1 ha.2
      rw [e, numV_snoc, Int.pow_succ]
      omega
  exact key l.length l rfl h
theorem all_false_of (l : List UInt8) (k : Nat) (c : UInt8) (h : l[k]? = some c) (hf : digB c = false) : l.all digB = false := by
  rw [List.all_eq_false]
  exact ⟨c, List.mem_of_getElem? h, by rw [hf]; simp⟩
theorem all_take (l : List UInt8) (k : Nat) (h : l.all digB = true) : (l.take k).all digB = true := by
  rw [List.all_eq_true] at h ⊢
  exact fun x hx => h x (List.mem_of_mem_take hx)
theorem pow12 (k : Nat) (h : k ≤ 12) : (10 : Int) ^ k ≤ 1000000000000 := by
  have : (10 : Nat) ^ k ≤ 10 ^ 12 := Nat.pow_le_pow_right (by omega) h
  have e : ((10 : Nat) ^ k : Int) = (10 : Int) ^ k := by simp
  omega
theorem numB_empty (s : ByteArray) (h : s.size = 0) : numB (bl s) = false := by
  have : bl s = [] := List.eq_nil_of_length_eq_zero h
  rw [this]; rfl
theorem head_bl (s : ByteArray) (h : 0 < s.size) : (bl s).head? = some s[0] := by
  rw [List.head?_eq_getElem?, bl_get s 0 h]
theorem isEmpty_bl (s : ByteArray) (h : 0 < s.size) : (bl s).isEmpty = false := by
  cases e : bl s with
  | nil => have : (bl s).length = 0 := by rw [e]; rfl
           rw [bl_length] at this; omega
  | cons x l => rfl
theorem byte_48 (c : UInt8) : (c == 48) = ((c.toNat : Int) == 48) := by
  rw [Bool.eq_iff_iff, beq_iff_eq, beq_iff_eq]
  constructor
  · rintro rfl; rfl
  · intro h; exact UInt8.toNat_inj.1 (by have : c.toNat = 48 := by omega
                                         rw [this]; rfl)
theorem nought_bl (s : ByteArray) (h : 0 < s.size) : nought (bl s) = (((s[0].toNat : Int) == 48) && decide (1 < s.size)) := by
  unfold nought
  rw [head_bl s h, bl_length, ← byte_48]
  rfl
theorem numB_bl (s : ByteArray) (h : 0 < s.size) (r : Bool) (hr : (((s[0].toNat : Int) == 48) && decide (1 < s.size)) = r) : numB (bl s) = (!r && (bl s).all digB) := by
  unfold numB
  rw [isEmpty_bl s h, nought_bl s h, hr]; simp
def readR (s : ByteArray) : Int × Int :=
  if (s.toList == [105, 110, 102]) = true then (1000000001, 0) else if 12 < s.size then (0, 1) else if numB (bl s) = false then (0, 3) else if 1000000000 < numV (bl s) then (0, 4) else (numV (bl s), 0)
/-- What the reference's Number answers. -/
def numR (s : ByteArray) (most : Int) : Int :=
  if 12 < s.size then -1 else if numB (bl s) = false then -2 else if most < numV (bl s) then most + 1 else numV (bl s)
theorem empty_toList (s : ByteArray) : s.toList.isEmpty = decide (s.size = 0) := by
  rw [ByteArray.toList_eq]
  rw [Bool.eq_iff_iff, List.isEmpty_iff, decide_eq_true_iff]
  constructor
  · intro h
    show (bl s).length = 0
    unfold bl; rw [h]; rfl
  · intro h; exact List.eq_nil_of_length_eq_zero h
end Go.Proofs.YtbbjpdadickilaaDoor.Pl
