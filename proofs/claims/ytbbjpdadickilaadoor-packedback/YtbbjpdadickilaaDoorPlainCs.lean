/- The sum of bytes as a long division (no program in sight). -/
import Derived.Test.YtbbjpdadickilaaDoorPlainCr
namespace Go.Proofs.YtbbjpdadickilaaDoor.Pl
set_option linter.unusedVariables false
set_option linter.unusedSimpArgs false
/-- The message's bits; noughts behind. -/
def msgB (l : List Int) (i : Nat) : Bool := if i < 8 * l.length then (el l (i / 8)).toNat.testBit (7 - i % 8) else false
/-- The register when i bits have come. -/
def regAt (l : List Int) : Nat → BitVec 16
  | 0 => 0xffff#16
  | i + 1 => crcIn (regAt l i) (msgB l i)
def bytesB (l : List Int) : Prop := ∀ x ∈ l, 0 ≤ x ∧ x < 256
theorem msgB_at {l : List Int} {k j : Nat} (hk : k < l.length) (hj : j < 8) : msgB l (8 * k + j) = (el l k).toNat.testBit (7 - j) := by
  unfold msgB
  rw [if_pos (by omega), show (8 * k + j) / 8 = k from by omega, show (8 * k + j) % 8 = j from by omega]
theorem regAt_byte {l : List Int} (hl : bytesB l) {k : Nat} (hk : k < l.length) : regAt l (8 * (k + 1)) = crcByte (regAt l (8 * k)) (el l k) := by
  have hb := hl (el l k) (el_mem hk)
  rw [crcByte_bits _ hb.1 hb.2]
  show regAt l (8 * k + 1 + 1 + 1 + 1 + 1 + 1 + 1 + 1) = _
  simp only [regAt]
  have e0 := msgB_at hk (show 0 < 8 by omega)
  have e1 := msgB_at hk (show 1 < 8 by omega)
  have e2 := msgB_at hk (show 2 < 8 by omega)
  have e3 := msgB_at hk (show 3 < 8 by omega)
  have e4 := msgB_at hk (show 4 < 8 by omega)
  have e5 := msgB_at hk (show 5 < 8 by omega)
  have e6 := msgB_at hk (show 6 < 8 by omega)
  have e7 := msgB_at hk (show 7 < 8 by omega)
  simp only [Nat.add_zero] at e0
  rw [show 8 * k + 1 + 1 + 1 + 1 + 1 + 1 + 1 = 8 * k + 7 from rfl, show 8 * k + 1 + 1 + 1 + 1 + 1 + 1 = 8 * k + 6 from rfl, show 8 * k + 1 + 1 + 1 + 1 + 1 = 8 * k + 5 from rfl, show 8 * k + 1 + 1 + 1 + 1 = 8 * k + 4 from rfl, show 8 * k + 1 + 1 + 1 = 8 * k + 3 from rfl, show 8 * k + 1 + 1 = 8 * k + 2 from rfl]
  rw [e0, e1, e2, e3, e4, e5, e6, e7]
  rfl
theorem regAt_take {l : List Int} (hl : bytesB l) : ∀ k, k ≤ l.length → regAt l (8 * k) = crcV (l.take k)
  | 0, _ => rfl
  | k + 1, h => by
    rw [regAt_byte hl (by omega), regAt_take hl k (by omega), take_el (by omega)]
    unfold crcV
    rw [List.foldl_append]
    rfl
theorem regAt_all {l : List Int} (hl : bytesB l) : regAt l (8 * l.length) = crcV l := by rw [regAt_take hl _ (Nat.le_refl _), List.take_length]
/-- What stands at place j when i steps of the division are done. -/
def dvB (l : List Int) (v : BitVec 16) (i j : Nat) : Bool := msgB l j ^^ (decide (i ≤ j ∧ j < i + 16) && v.getMsbD (j - i))
def bi (b : Bool) : Int := if b = true then 1 else 0
theorem bi_01 (b : Bool) : bi b = 0 ∨ bi b = 1 := by cases b <;> simp [bi]
theorem bi_one {b : Bool} : bi b = 1 ↔ b = true := by cases b <;> simp [bi]
theorem bi_xor (a b : Bool) : (bi a + bi b) % 2 = bi (a ^^ b) := by cases a <;> cases b <;> rfl
theorem bi_not (a : Bool) : 1 - bi a = bi (!a) := by cases a <;> rfl
def polyB (k : Nat) : Bool := k == 0 || k == 4 || k == 11 || k == 16
theorem poly_msb : ∀ t : Fin 16, (0x1021#16 : BitVec 16).getMsbD t.1 = polyB (t.1 + 1) := by decide +kernel
theorem msb_shift (v : BitVec 16) (t : Nat) : (v <<< 1).getMsbD t = (decide (t + 1 < 16) && v.getMsbD (t + 1)) := by
  rw [BitVec.getMsbD_shiftLeft]
  by_cases h : t + 1 < 16
  · simp [h, Nat.add_comm]
  · have : v.getMsbD (t + 1) = false := BitVec.getMsbD_of_ge v _ (by omega)
    simp [h, this, Nat.add_comm]
theorem dvB_start (l : List Int) (j : Nat) : dvB l 0xffff#16 0 j = (msgB l j ^^ decide (j < 16)) := by
  unfold dvB
  by_cases h : j < 16
  · have : (0xffff#16 : BitVec 16).getMsbD j = true := (show ∀ t : Fin 16, (0xffff#16 : BitVec 16).getMsbD t.1 = true by decide +kernel) ⟨j, h⟩
    simp [h, this]
  · simp [h]
theorem dvB_at (l : List Int) (v : BitVec 16) (i : Nat) : dvB l v i i = (msgB l i ^^ v.msb) := by
  unfold dvB
  simp [BitVec.msb]
theorem dvB_yes {l : List Int} {v : BitVec 16} {i j : Nat} (h : dvB l v i i = true) (hj : i < j) : dvB l (crcIn v (msgB l i)) (i + 1) j = (dvB l v i j ^^ (decide (j < i + 17) && polyB (j - i))) := by
  rw [dvB_at] at h
  unfold dvB crcIn
  rw [if_pos h]
  by_cases h17 : j < i + 17
  · obtain ⟨t, rfl⟩ : ∃ t, j = i + 1 + t := ⟨j - i - 1, by omega⟩
    have e1 : i + 1 + t - (i + 1) = t := by omega
    have e2 : i + 1 + t - i = t + 1 := by omega
    rw [e1, e2, BitVec.getMsbD_xor, msb_shift, poly_msb ⟨t, by omega⟩]
    have d1 : decide (i + 1 ≤ i + 1 + t ∧ i + 1 + t < i + 1 + 16) = true := decide_eq_true (by omega)
    have d2 : decide (i ≤ i + 1 + t ∧ i + 1 + t < i + 16) = decide (t + 1 < 16) := by
      by_cases h9 : t + 1 < 16
      · rw [decide_eq_true (by omega), decide_eq_true h9]
      · rw [decide_eq_false (by omega), decide_eq_false h9]
    have d3 : decide (i + 1 + t < i + 17) = true := decide_eq_true h17
    rw [d1, d2, d3, Bool.true_and, Bool.true_and, Bool.xor_assoc]
  · have d1 : decide (i + 1 ≤ j ∧ j < i + 1 + 16) = false := decide_eq_false (by omega)
    have d2 : decide (i ≤ j ∧ j < i + 16) = false := decide_eq_false (by omega)
    have d3 : decide (j < i + 17) = false := decide_eq_false h17
    rw [d1, d2, d3]
    simp
theorem dvB_no {l : List Int} {v : BitVec 16} {i j : Nat} (h : dvB l v i i = false) (hj : i < j) : dvB l (crcIn v (msgB l i)) (i + 1) j = dvB l v i j := by
  rw [dvB_at] at h
  unfold dvB crcIn
  rw [if_neg (by rw [h]; simp), BitVec.xor_zero]
  by_cases h17 : j < i + 17
  · obtain ⟨t, rfl⟩ : ∃ t, j = i + 1 + t := ⟨j - i - 1, by omega⟩
    have e1 : i + 1 + t - (i + 1) = t := by omega
    have e2 : i + 1 + t - i = t + 1 := by omega
    rw [e1, e2, msb_shift]
    have d1 : decide (i + 1 ≤ i + 1 + t ∧ i + 1 + t < i + 1 + 16) = true := decide_eq_true (by omega)
    have d2 : decide (i ≤ i + 1 + t ∧ i + 1 + t < i + 16) = decide (t + 1 < 16) := by
      by_cases h9 : t + 1 < 16
      · rw [decide_eq_true (by omega), decide_eq_true h9]
      · rw [decide_eq_false (by omega), decide_eq_false h9]
    rw [d1, d2, Bool.true_and]
  · have d1 : decide (i + 1 ≤ j ∧ j < i + 1 + 16) = false := decide_eq_false (by omega)
    have d2 : decide (i ≤ j ∧ j < i + 16) = false := decide_eq_false (by omega)
    rw [d1, d2]
    simp
theorem dvB_end (l : List Int) (v : BitVec 16) {k : Nat} (hk : k < 16) : dvB l v (8 * l.length) (8 * l.length + k) = v.getMsbD k := by
  unfold dvB msgB
  rw [if_neg (by omega), Bool.false_xor, decide_eq_true (by omega), Bool.true_and, show 8 * l.length + k - 8 * l.length = k from by omega]
/-- The number that the first t bits of the register make. -/
def topN (v : BitVec 16) (t : Nat) : Int := ((v.toNat / 2 ^ (16 - t) : Nat) : Int)
theorem topN_zero (v : BitVec 16) : topN v 0 = 0 := by
  have := v.isLt
  unfold topN
  rw [Nat.div_eq_of_lt (by simpa using this)]
  rfl
theorem topN_all (v : BitVec 16) : topN v 16 = (v.toNat : Int) := by unfold topN; simp
theorem topN_succ (v : BitVec 16) {t : Nat} (ht : t < 16) : topN v (t + 1) = 2 * topN v t + bi (v.getMsbD t) := by
  unfold topN
  obtain ⟨s, hs⟩ : ∃ s, 16 - t = s + 1 := ⟨15 - t, by omega⟩
  have e1 : 16 - (t + 1) = s := by omega
  have e2 : v.getMsbD t = v.toNat.testBit s := by
    rw [BitVec.getMsbD_eq_getLsbD, decide_eq_true (by omega), Bool.true_and, show 16 - 1 - t = s from by omega]
    rfl
  have e3 : v.toNat / 2 ^ (s + 1) = v.toNat / 2 ^ s / 2 := by rw [Nat.pow_succ, Nat.div_div_eq_div_mul]
  rw [hs, e1, e2, e3, Nat.testBit_eq_decide_div_mod_eq]
  unfold bi
  by_cases h : v.toNat / 2 ^ s % 2 = 1
  · rw [decide_eq_true h, if_pos rfl]; omega
  · rw [decide_eq_false h, if_neg (by simp)]; omega
theorem topN_range (v : BitVec 16) (t : Nat) (ht : t ≤ 16) : 0 ≤ topN v t ∧ topN v t < 65536 := by
  have := v.isLt
  have h2 : v.toNat / 2 ^ (16 - t) ≤ v.toNat := Nat.div_le_self _ _
  unfold topN
  generalize v.toNat / 2 ^ (16 - t) = x at *
  omega
/-- A bit of a byte, as a number. -/
theorem bit_num {x : Int} (h0 : 0 ≤ x) (k : Nat) : x / 2 ^ k % 2 = bi (x.toNat.testBit k) := by
  obtain ⟨n, rfl⟩ := Int.eq_ofNat_of_zero_le h0
  rw [Int.toNat_natCast, Nat.testBit_eq_decide_div_mod_eq]
  have e : ((n : Int) / 2 ^ k % 2) = ((n / 2 ^ k % 2 : Nat) : Int) := by push_cast; rfl
  rw [e]
  unfold bi
  by_cases h : n / 2 ^ k % 2 = 1
  · rw [decide_eq_true h, if_pos rfl, h]; rfl
  · rw [decide_eq_false h, if_neg (by simp)]
    have : n / 2 ^ k % 2 = 0 := by omega
    rw [this]; rfl
end Go.Proofs.YtbbjpdadickilaaDoor.Pl
