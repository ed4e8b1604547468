/- The reference: what is wrong with a word, where a label leads in it, a cost as an answer. -/
import Derived.Test.YtpfcljhbamnghaaNn
import Derived.Test.YtpfcljhbamnghaaMcR
import Derived.Test.YtpfcljhbamnghaaRn
import Derived.Test.YtpfcljhbamnghaaPlainWm
import Derived.Test.YtpfcljhbamnghaaPlainWi
namespace Go.Proofs.Ytpfcljhbamnghaa.Wt
open Go.ChangeShapes Go.WideShapes Go.ChangeAt Go.RowKit
open Go.Proofs.Ytpfcljhbamnghaa.Pl
set_option linter.unusedVariables false
set_option linter.unusedSimpArgs false
theorem wordFault_any (v : Value) (l : List Int) (w : World) (h : Nums w v l) :
    Calls Try.prog 26 #[v] w fun e w' => e = .returned (.int .i64 (wrdE l)) ∧ w = w' := by
  by_cases h12 : 12 < l.length
  · obtain ⟨a, cap, rfl, _⟩ := h.get
    rw [wrd_long h12]
    have h12' : (12 : Int) < (l.length : Int) := by omega
    clear h
    generalize l.length = n at *
    go_enter Try.func26, Try.ntmps26
    go_wp2
    go_ret
    exact ⟨rfl, rfl⟩
  · obtain ⟨a, cap, rfl, hc⟩ := h.get
    have HC : Hid (∀ j, j < l.length → ∃ b off, a = some ⟨b, off, none⟩ ∧ b < w.heap.size ∧ w.cell? ⟨b, off + j, none⟩ = some (.int .i64 (el l j))) := hc
    have HR : Hid (∀ i, i < l.length → inB (el l i) 1 1000 = false → wrdE l = 2) := fun i hi hb => wrd_bad h12 hi hb
    have HZ : Hid ((∀ i, i < l.length → inB (el l i) 1 1000 = true) → wrdE l = 0) := fun ha => wrd_ok h12 ha
    have h12' : ¬ (12 : Int) < (l.length : Int) := by omega
    clear h hc
    generalize wrdE l = r at *
    generalize l.length = n at *
    go_enter Try.func26, Try.ntmps26
    go_wp2
    go_loop [3] (fun i => ∃ k : Nat, k ≤ n ∧ i = .int .i64 k ∧ Hid (∀ j, j < k → inB (el l j) 1 1000 = true)) (fun i => n - (intOf i).toNat)
    case atStart => exact ⟨0, Nat.zero_le _, rfl, fun j hj => absurd hj (by omega)⟩
    case round =>
      obtain ⟨k, hk, rfl, hall⟩ := hrel
      by_cases hlt : k < n
      · have hlt' : (k : Int) < (n : Int) := by omega
        have hk0 : (0 : Int) ≤ (k : Int) := by omega
        obtain ⟨b, off, rfl, hb, g0⟩ := HC.out k hlt
        have HRk := hidP (HR.out k hlt)
        have HS : Hid (inB (el l k) 1 1000 = true → ∀ j, j < k + 1 → inB (el l j) 1 1000 = true) := fun g j hj => by
          by_cases e : j = k
          · rw [e]; exact g
          · exact hall.out j (by omega)
        generalize el l k = p at *
        rcases bool_cases' (inB p 1 1000) with e1 | e1
        · have E1 := hidP e1
          have HS' := hidP (HS.out e1)
          clear HS HRk e1
          go_wp2_with (first | (go_at_call 44; (with_reducible refine (refIn _ _ _ _ _ E1.out).mono ?_); rintro e w' ⟨rfl, rfl⟩))
          go_round
          case rel => exact ⟨k + 1, by omega, by go_num, HS'⟩
          case measure => simp [intOf]; omega
        · have E1 := hidP e1
          have hr : r = 2 := HRk.out e1
          clear HS HRk e1
          subst hr
          go_wp2_with (first | (go_at_call 44; (with_reducible refine (refIn _ _ _ _ _ E1.out).mono ?_); rintro e w' ⟨rfl, rfl⟩))
          go_ret
          exact ⟨rfl, rfl⟩
      · have hlt' : ¬ (k : Int) < (n : Int) := by omega
        obtain rfl : n = k := by omega
        have hr : r = 0 := HZ.out hall.out
        subst hr
        go_wp2
        go_ret
        exact ⟨rfl, rfl⟩
/-- Where a label leads, as a number. -/
def fitI (o : Option Nat) : Int := match o with | some i => (i : Int) | none => -1
theorem fits_word (v : Value) (l : List Int) (i : Nat) (b : Int) (w : World) (h : Nums w v l) (hl : l.length ≤ 12) (hi : i ≤ l.length) :
    Calls Try.prog 50 #[v, .int .i64 (i : Int), .int .i64 b] w fun e w' => e = .returned (.int .i64 (fitI (fitN l i b))) ∧ w = w' := by
  obtain ⟨a, cap, rfl, hc⟩ := h.get
  by_cases hb : b = 0
  · have hr : fitI (fitN l i b) = (i : Int) := by simp [fitN, hb, fitI]
    rw [hr]
    subst hb
    clear h hc hr
    go_enter Try.func50, Try.ntmps50
    go_wp2
    go_ret
    exact ⟨rfl, rfl⟩
  · have hb' : (b == 0) = false := by simpa using hb
    by_cases hlt : i < l.length
    · obtain ⟨bk, off, rfl, _, g0⟩ := hc i hlt
      have hlt' : (i : Int) < (l.length : Int) := by omega
      have hi0 : (0 : Int) ≤ (i : Int) := by omega
      by_cases he : el l i = b
      · have hr : fitI (fitN l i b) = (i : Int) + 1 := by simp [fitN, hb, hlt, he, fitI]
        have he' : (el l i == b) = true := by simpa using he
        have hw : IntKind.i64.wrap ((i : Int) + 1) = (i : Int) + 1 := wrapI (by omega) (by omega)
        rw [hr]
        clear h hc hr hb he
        generalize el l i = x at *
        generalize l.length = n at *
        go_enter Try.func50, Try.ntmps50
        go_wp2
        go_ret
        exact ⟨rfl, rfl⟩
      · have hr : fitI (fitN l i b) = -1 := by simp [fitN, hb, he, fitI]
        have he' : (el l i == b) = false := by simpa using he
        rw [hr]
        clear h hc hr hb he
        generalize el l i = x at *
        generalize l.length = n at *
        go_enter Try.func50, Try.ntmps50
        go_wp2
        go_ret
        exact ⟨rfl, rfl⟩
    · have hlt' : ¬ (i : Int) < (l.length : Int) := by omega
      have hr : fitI (fitN l i b) = -1 := by simp [fitN, hb, hlt, fitI]
      rw [hr]
      clear h hc hr hb
      generalize l.length = n at *
      go_enter Try.func50, Try.ntmps50
      go_wp2
      go_ret
      exact ⟨rfl, rfl⟩
theorem told_ans (b : Int) (w : World) :
    Calls Try.prog 34 #[.int .i64 b] w fun e w' => e = .returned (.tuple #[.int .i64 (if b = noneI then 1000000001 else if 1000000000 < b then 0 else b), .int .i64 (if b = noneI then 0 else if 1000000000 < b then 4 else 0)]) ∧ w = w' := by
  by_cases h : b = noneI
  · have h' : (b == 1152921504606846976) = true := by simpa [noneI] using h
    rw [if_pos h, if_pos h]
    clear h
    go_enter Try.func34, Try.ntmps34
    go_wp2
    go_ret2
    exact ⟨rfl, rfl⟩
  · have h' : (b == 1152921504606846976) = false := by simpa [noneI] using h
    rw [if_neg h, if_neg h]
    clear h
    by_cases g : 1000000000 < b
    · rw [if_pos g, if_pos g]
      go_enter Try.func34, Try.ntmps34
      go_wp2
      go_ret2
      exact ⟨rfl, rfl⟩
    · rw [if_neg g, if_neg g]
      go_enter Try.func34, Try.ntmps34
      go_wp2
      go_ret2
      exact ⟨rfl, rfl⟩
end Go.Proofs.Ytpfcljhbamnghaa.Wt
