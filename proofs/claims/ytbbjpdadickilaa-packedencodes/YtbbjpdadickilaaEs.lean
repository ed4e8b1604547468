/- The program: the sum of bytes. -/
import Derived.Test.YtbbjpdadickilaaBy
import Derived.Laws.BitsLemmas
namespace Go.Proofs.Ytbbjpdadickilaa.Pl
set_option linter.unusedVariables false
theorem bits_xor16 (x y : BitVec 16) : bits .xor .u16 (x.toNat : Int) (y.toNat : Int) = (((x ^^^ y).toNat : Nat) : Int) := by
  have h := (x ^^^ y).isLt
  simp only [bits, BitVec.ofInt_natCast, BitVec.toNat_xor, BitVec.toNat_ofNat]
  have hx : x.toNat % 2 ^ IntKind.u16.bits = x.toNat := Nat.mod_eq_of_lt x.isLt
  have hy : y.toNat % 2 ^ IntKind.u16.bits = y.toNat := Nat.mod_eq_of_lt y.isLt
  rw [hx, hy, IntKind.wrap_u16]
  rw [BitVec.toNat_xor] at h
  omega
theorem shl16 (x : BitVec 16) : IntKind.u16.wrap ((x.toNat : Int) * 2) = (((x <<< 1).toNat : Nat) : Int) := by
  rw [IntKind.wrap_u16, BitVec.toNat_shiftLeft, Nat.shiftLeft_eq]
  omega
theorem msb16 (x : BitVec 16) : (x.toNat : Int) / 32768 = if x.msb = true then 1 else 0 := by
  have h := x.isLt
  rw [BitVec.msb_eq_decide]
  by_cases g : 32768 ≤ x.toNat
  · rw [if_pos (by simpa using g)]; omega
  · rw [if_neg (by simpa using g)]; omega
theorem crcBits_succ (k : Nat) (v : BitVec 16) : crcBits (k + 1) v = crcBit (crcBits k v) := by
  induction k generalizing v with
  | zero => rfl
  | succ k ih => show crcBits (k + 1) (crcBit v) = crcBit (crcBits k (crcBit v)); exact ih _
theorem crcBit_eq (v : BitVec 16) : crcBit v = if v.msb = true then (v <<< 1) ^^^ 0x1021#16 else v <<< 1 := by
  unfold crcBit crcIn
  rw [Bool.false_xor]
  cases v.msb <;> simp
theorem crcV_take (l : List Int) {k : Nat} (h : k < l.length) : crcV (l.take (k + 1)) = crcByte (crcV (l.take k)) (el l k) := by
  rw [take_el h]
  simp [crcV]
end Go.Proofs.Ytbbjpdadickilaa.Pl
namespace Go.Proofs.Ytbbjpdadickilaa.Wt
open Go.ChangeShapes Go.WideShapes Go.ChangeAt Go.RowKit
open Go.Proofs.Ytbbjpdadickilaa.Pl
set_option linter.unusedVariables false
set_option linter.unusedSimpArgs false
set_option maxRecDepth 100000 in
theorem sumOf_any (v : Value) (l : List Int) (w : World) (h : Bys w v l) (hb : bytesB l) (hl : l.length ≤ 8000) :
    Calls Try.prog 20 #[v] w fun e w' => e = .returned (.int .u16 (crcN l)) ∧ w = w' := by
  obtain ⟨a, cap, rfl, hc⟩ := h.get
  have HC : Hid (∀ j, j < l.length → ∃ b off, a = some ⟨b, off, none⟩ ∧ b < w.heap.size ∧ w.cell? ⟨b, off + j, none⟩ = some (.int .u8 (el l j))) := hc
  have HB : Hid (bytesB l) := hb
  clear hc h hb
  generalize hn : l.length = n at *
  have HN : Hid (l.length = n) := hn
  clear hn
  go_enter Try.func20, Try.ntmps20
  go_wp2
  go_loop [3, 9] (fun s3 i => ∃ (k : Nat), k ≤ n ∧ i = .int .i64 k ∧ s3 = .int .u16 ((crcV (l.take k)).toNat : Int)) (fun _ i => n - (intOf i).toNat)
  case atStart => exact ⟨0, Nat.zero_le _, rfl, rfl⟩
  case round =>
    obtain ⟨k, hk, rfl, rfl⟩ := hrel
    by_cases hlt : k < n
    · obtain ⟨b, off, rfl, hbl, g⟩ := HC.out k hlt
      have hx := HB.out (el l k) (el_mem (by rw [HN.out]; exact hlt))
      have HS : Hid (crcV (l.take (k + 1)) = crcByte (crcV (l.take k)) (el l k)) := crcV_take l (by rw [HN.out]; exact hlt)
      generalize crcV (l.take k) = r at *
      generalize el l k = x at *
      obtain ⟨y, hy⟩ : ∃ y : BitVec 16, BitVec.ofNat 16 (x.toNat * 256) = y := ⟨_, rfl⟩
      have e1 : IntKind.u16.wrap x = x := by rw [IntKind.wrap_u16]; omega
      have e2 : IntKind.u16.wrap (x * 256) = (y.toNat : Int) := by
        rw [← hy, IntKind.wrap_u16, BitVec.toNat_ofNat]; omega
      have e3 := bits_xor16 r y
      have HS2 : Hid (crcV (l.take (k + 1)) = crcBits 8 (r ^^^ y)) := by show _ = _; rw [HS.out]; unfold crcByte; rw [hy]
      clear HS hy
      generalize r ^^^ y = z at *
      have hlt' : (k : Int) < (n : Int) := by omega
      go_wp2
      go_loop [3, 18] (fun s3 i => ∃ (j : Nat), j ≤ 8 ∧ i = .int .i64 j ∧ s3 = .int .u16 ((crcBits j z).toNat : Int)) (fun _ i => 8 - (intOf i).toNat)
      case atStart => exact ⟨0, Nat.zero_le _, rfl, rfl⟩
      case round =>
        obtain ⟨j, hj, rfl, rfl⟩ := hrel
        by_cases hjl : j < 8
        · have HJ : Hid (crcBits (j + 1) z = crcBit (crcBits j z)) := crcBits_succ j z
          obtain ⟨q3, hq3⟩ : ∃ q3, crcBits (j + 1) z = q3 := ⟨_, rfl⟩
          have HQ3 : Hid (crcBits (j + 1) z = q3) := hq3
          rw [hq3] at HJ
          clear hq3
          generalize crcBits j z = q at *
          have f1 := msb16 q
          have f2 := shl16 q
          have hj8 : (j : Int) < 8 := by omega
          have HQ := crcBit_eq q
          cases hm : q.msb with
          | true =>
            rw [hm, if_pos rfl] at f1 HQ
            have f3 := bits_xor16 (q <<< 1) 0x1021#16
            have f4 : ((0x1021#16).toNat : Int) = 4129 := rfl
            rw [f4, ← HQ, ← HJ.out] at f3
            generalize q <<< 1 = q2 at *
            go_wp2
            go_round
            case rel => exact ⟨j + 1, by omega, by go_num, by rw [HQ3.out]⟩
            case measure => simp [intOf]; omega
          | false =>
            rw [hm, if_neg (by simp)] at f1 HQ
            rw [← HQ, ← HJ.out] at f2
            go_wp2
            go_round
            case rel => exact ⟨j + 1, by omega, by go_num, by rw [HQ3.out]⟩
            case measure => simp [intOf]; omega
        · have hjl' : ¬ (j : Int) < 8 := by omega
          obtain rfl : j = 8 := by omega
          go_wp2
          go_round
          case rel => exact ⟨k + 1, by omega, by go_num, by rw [HS2.out]⟩
          case measure => simp [intOf]; omega
    · have hnl : ¬ (k : Int) < (n : Int) := by omega
      obtain rfl : k = n := by omega
      have HE : Hid (l.take k = l) := List.take_of_length_le (by rw [HN.out]; exact Nat.le_refl _)
      go_wp2
      go_ret
      exact ⟨by rw [HE.out]; rfl, rfl⟩
end Go.Proofs.Ytbbjpdadickilaa.Wt
