/- The sum of bytes, bit by bit (no program in sight). -/
import Derived.Test.YtbbjpdadickilaaDoorPlainK
namespace Go.Proofs.YtbbjpdadickilaaDoor.Pl
set_option linter.unusedVariables false
/-- One bit of the message comes in. -/
def crcIn (v : BitVec 16) (m : Bool) : BitVec 16 := (v <<< 1) ^^^ (if (m ^^ v.msb) = true then 0x1021#16 else 0#16)
/-- One step of the register alone. -/
def crcBit (v : BitVec 16) : BitVec 16 := crcIn v false
def crcBits : Nat → BitVec 16 → BitVec 16
  | 0, v => v
  | k + 1, v => crcBits k (crcBit v)
/-- One byte, as the document says it. -/
def crcByte (v : BitVec 16) (b : Int) : BitVec 16 := crcBits 8 (v ^^^ BitVec.ofNat 16 (b.toNat * 256))
/-- The sum. -/
def crcV (l : List Int) : BitVec 16 := l.foldl crcByte 0xffff#16
def crcN (l : List Int) : Int := ((crcV l).toNat : Int)
theorem crcN_range (l : List Int) : 0 ≤ crcN l ∧ crcN l < 65536 := by
  have := (crcV l).isLt
  unfold crcN
  omega
theorem if_xor (a b : Bool) (P : BitVec 16) : ((if a = true then P else 0#16) ^^^ (if b = true then P else 0#16)) = if (a ^^ b) = true then P else 0#16 := by
  cases a <;> cases b <;> simp
theorem crcIn_xor (x y : BitVec 16) (m : Bool) : crcIn (x ^^^ y) m = crcIn x (m ^^ y.msb) ^^^ (y <<< 1) := by
  unfold crcIn
  rw [BitVec.shiftLeft_xor_distrib, BitVec.msb_xor]
  have e : (m ^^ (x.msb ^^ y.msb)) = (m ^^ y.msb ^^ x.msb) := by cases m <;> cases x.msb <;> cases y.msb <;> rfl
  rw [e, BitVec.xor_assoc, BitVec.xor_assoc, BitVec.xor_comm (y <<< 1)]
def msbs (u : BitVec 16) : Nat → List Bool
  | 0 => []
  | k + 1 => u.msb :: msbs (u <<< 1) k
theorem crcBits_xor : ∀ (k : Nat) (v u : BitVec 16), crcBits k (v ^^^ u) = (msbs u k).foldl crcIn v ^^^ (u <<< k)
  | 0, v, u => by simp [crcBits, msbs]
  | k + 1, v, u => by
    show crcBits k (crcIn (v ^^^ u) false) = _
    rw [crcIn_xor, crcBits_xor k, Bool.false_xor]
    show _ = (msbs (u <<< 1) k).foldl crcIn (crcIn v u.msb) ^^^ _
    rw [← BitVec.shiftLeft_add, Nat.add_comm 1 k]
theorem byte_bits : ∀ b : Fin 256, msbs (BitVec.ofNat 16 (b.1 * 256)) 8 = [b.1.testBit 7, b.1.testBit 6, b.1.testBit 5, b.1.testBit 4, b.1.testBit 3, b.1.testBit 2, b.1.testBit 1, b.1.testBit 0] ∧ (BitVec.ofNat 16 (b.1 * 256)) <<< 8 = 0#16 := by
  decide +kernel
/-- The bits of a byte, the highest first. -/
def bitsB (b : Int) : List Bool := [b.toNat.testBit 7, b.toNat.testBit 6, b.toNat.testBit 5, b.toNat.testBit 4, b.toNat.testBit 3, b.toNat.testBit 2, b.toNat.testBit 1, b.toNat.testBit 0]
theorem crcByte_bits (v : BitVec 16) {b : Int} (h0 : 0 ≤ b) (h1 : b < 256) : crcByte v b = (bitsB b).foldl crcIn v := by
  have h := byte_bits ⟨b.toNat, by omega⟩
  unfold crcByte
  rw [crcBits_xor, h.1, h.2, BitVec.xor_zero]
  rfl
theorem crcBits_add (k : Nat) : ∀ x y : BitVec 16, crcBits k (x ^^^ y) = crcBits k x ^^^ crcBits k y := by
  induction k with
  | zero => intro x y; rfl
  | succ k ih =>
    intro x y
    show crcBits k (crcIn (x ^^^ y) false) = crcBits k (crcIn x false) ^^^ crcBits k (crcIn y false)
    rw [← ih]
    congr 1
    have e : crcIn y false = (y <<< 1) ^^^ (if y.msb = true then 0x1021#16 else 0#16) := by unfold crcIn; rw [Bool.false_xor]
    rw [crcIn_xor, e, Bool.false_xor]
    unfold crcIn
    rw [Bool.false_xor, BitVec.xor_assoc, BitVec.xor_assoc, BitVec.xor_comm (y <<< 1) (if y.msb = true then _ else _), ← BitVec.xor_assoc (if x.msb = true then _ else _), if_xor, Bool.xor_comm y.msb x.msb]
/-- The step of the register loses nothing. -/
theorem crcIn_inj {v w : BitVec 16} {m : Bool} (h : crcIn v m = crcIn w m) : v = w := by
  obtain ⟨d, hd⟩ : ∃ d, w ^^^ v = d := ⟨_, rfl⟩
  have hv : v = w ^^^ d := by rw [← hd, ← BitVec.xor_assoc, BitVec.xor_self, BitVec.zero_xor]
  rw [hv, crcIn_xor] at h
  have hz : d <<< 1 = crcIn w (m ^^ d.msb) ^^^ crcIn w m := by
    rw [← h, ← BitVec.xor_assoc, BitVec.xor_self, BitVec.zero_xor]
  have hz2 : d <<< 1 = if d.msb = true then 0x1021#16 else 0#16 := by
    rw [hz]
    unfold crcIn
    rw [BitVec.xor_assoc, BitVec.xor_comm (w <<< 1) (if (m ^^ w.msb) = true then _ else _), ← BitVec.xor_assoc (if (m ^^ d.msb ^^ w.msb) = true then _ else _), if_xor, BitVec.xor_comm, BitVec.xor_assoc, BitVec.xor_self, BitVec.xor_zero]
    congr 1
    cases m <;> cases d.msb <;> cases w.msb <;> rfl
  have hm : d.msb = false := by
    cases hb : d.msb with
    | false => rfl
    | true =>
      rw [hb, if_pos rfl] at hz2
      have := congrArg (fun x : BitVec 16 => x.getLsbD 0) hz2
      simp at this
  rw [hm, if_neg (by simp)] at hz2
  have hd0 : d = 0#16 := by
    apply BitVec.eq_of_getLsbD_eq
    intro i hi
    by_cases h15 : i = 15
    · subst h15
      have : d.msb = d.getLsbD 15 := by simp [BitVec.msb_eq_getLsbD_last]
      rw [← this, hm]; simp
    · have := congrArg (fun x : BitVec 16 => x.getLsbD (i + 1)) hz2
      simp at this
      have h2 := this (by omega)
      rw [h2]; simp
  rw [hv, hd0, BitVec.xor_zero]
theorem crcBits_inj (k : Nat) : ∀ {v w : BitVec 16}, crcBits k v = crcBits k w → v = w := by
  induction k with
  | zero => intro v w h; exact h
  | succ k ih => intro v w h; exact crcIn_inj (ih h)
theorem crcByte_inj {v w : BitVec 16} {b : Int} (h : crcByte v b = crcByte w b) : v = w := by
  have := crcBits_inj 8 h
  have h2 := congrArg (· ^^^ BitVec.ofNat 16 (b.toNat * 256)) this
  simp only [BitVec.xor_assoc, BitVec.xor_self, BitVec.xor_zero] at h2
  exact h2
theorem crcByte_byte {v : BitVec 16} {a b : Int} (ha : 0 ≤ a ∧ a < 256) (hb : 0 ≤ b ∧ b < 256) (h : crcByte v a = crcByte v b) : a = b := by
  have := crcBits_inj 8 h
  have h2 := congrArg (v ^^^ ·) this
  simp only [← BitVec.xor_assoc, BitVec.xor_self, BitVec.zero_xor] at h2
  have h3 := congrArg BitVec.toNat h2
  simp only [BitVec.toNat_ofNat] at h3
  omega
theorem fold_inj : ∀ (s : List Int) {v w : BitVec 16}, s.foldl crcByte v = s.foldl crcByte w → v = w
  | [], v, w, h => h
  | b :: s, v, w, h => crcByte_inj (fold_inj s h)
/-- One changed byte changes the sum. -/
theorem crc_changed (p s : List Int) {a b : Int} (ha : 0 ≤ a ∧ a < 256) (hb : 0 ≤ b ∧ b < 256) (h : a ≠ b) : crcN (p ++ a :: s) ≠ crcN (p ++ b :: s) := by
  intro e
  apply h
  have e2 : crcV (p ++ a :: s) = crcV (p ++ b :: s) := by
    apply BitVec.eq_of_toNat_eq
    unfold crcN at e
    omega
  unfold crcV at e2
  rw [List.foldl_append, List.foldl_append] at e2
  exact crcByte_byte ha hb (fold_inj s e2)
end Go.Proofs.YtbbjpdadickilaaDoor.Pl
