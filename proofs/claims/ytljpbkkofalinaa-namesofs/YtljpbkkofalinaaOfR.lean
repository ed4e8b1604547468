/- What the reference's NameOf answers. -/
import Derived.Test.YtljpbkkofalinaaNmF
namespace Go.Proofs.Ytljpbkkofalinaa.Wt
open Go.ChangeShapes Go.WideShapes Go.ChangeAt Go.RowKit
open Go.Proofs.Ytljpbkkofalinaa.Pl
set_option linter.unusedVariables false
theorem told_bad (v : Value) (ns : List Nm) (s : Int) (w : World) (hN : Nms w v ns) (hm : ns.length ≤ maxLen) (r : Int) (hr : faultR ns = r) (h0 : r ≠ 0) :
    Calls Try.prog 13 #[v, .int .i64 s] w fun e w' => e = .returned (.tuple #[.string ByteArray.empty, .int .i64 r]) ∧ Below w.heap.size w w' := by
  have HN : Hid (Nms w v ns) := hN
  have h0' : (r != 0) = true := bne_iff_ne.2 h0
  clear hN
  go_enter Try.func13, Try.ntmps13
  go_wp2_with (first | (go_at_call 8; (with_reducible refine (fault_any _ ns _ HN.out hm).mono ?_); rw [hr]; rintro e w' ⟨rfl, hb⟩))
  go_ret2
  exact ⟨rfl, hb⟩
def noLab (ns : List Nm) (s : Int) (k : Nat) : Prop := ∀ i, i < k → ¬ (nm ns i).2 = s
theorem noLab_next {ns : List Nm} {s : Int} {k : Nat} (h : noLab ns s k) (hk : ¬ (nm ns k).2 = s) : noLab ns s (k + 1) := fun i hi => by
  rcases Nat.lt_succ_iff_lt_or_eq.1 hi with g | g
  · exact h i g
  · subst g; exact hk
/-- The answer, whichever it is. -/
def ToldR (ns : List Nm) (s : Int) (e : Ending) : Prop :=
  (∃ j, labAt ns s j ∧ e = .returned (.tuple #[.string (nm ns j).1, .int .i64 0])) ∨ ((∀ j, ¬ labAt ns s j) ∧ e = .returned (.tuple #[.string ByteArray.empty, .int .i64 12]))
set_option maxHeartbeats 1000000 in
theorem told_ok (v : Value) (ns : List Nm) (s : Int) (w : World) (hN : Nms w v ns) (hm : ns.length ≤ maxLen) (hr : faultR ns = 0) :
    Calls Try.prog 13 #[v, .int .i64 s] w fun e w' => ToldR ns s e ∧ Below w.heap.size w w' := by
  have HN : Hid (Nms w v ns) := hN
  have hln := (fault_ok hr).1
  by_cases hz : 0 < ns.length
  · obtain ⟨b0, off, cap, rfl, hbl, hc⟩ := hN.plain hz
    have HC : Hid (∀ j, j < ns.length → w.cell? ⟨b0, off + j * 2, none⟩ = some (.string (nm ns j).1) ∧ w.cell? ⟨b0, off + j * 2 + 1, none⟩ = some (.int .i64 (nm ns j).2)) := hc
    have HT : Hid (∀ k, k < ns.length → (nm ns k).2 = s → ToldR ns s (.returned (.tuple #[.string (nm ns k).1, .int .i64 0]))) := fun k hk e => .inl ⟨k, ⟨hk, e⟩, rfl⟩
    have HF : Hid (noLab ns s ns.length → ToldR ns s (.returned (.tuple #[.string ByteArray.empty, .int .i64 12]))) := fun h => .inr ⟨fun j hj => h j hj.1 hj.2, rfl⟩
    clear hN hc
    generalize hn : ns.length = n at *
    go_enter Try.func13, Try.ntmps13
    go_wp2_with (first | (go_at_call 8; (refine (fault_any _ ns _ HN.out (by rw [hn]; exact hm)).mono ?_); rw [hr]; rintro e w1 ⟨rfl, hb⟩))
    go_loop [7] (fun i => ∃ k : Nat, k ≤ n ∧ i = .int .i64 k ∧ Hid (noLab ns s k)) (fun i => n - (intOf i).toNat)
    case atStart => exact ⟨0, Nat.zero_le _, rfl, fun i hi => absurd hi (Nat.not_lt_zero _)⟩
    case round =>
      obtain ⟨k, hk, rfl, hok⟩ := hrel
      by_cases hlt : k < n
      · have g1 := (hb.cell (p := ⟨b0, off + k * 2, none⟩) hbl).trans (HC.out k hlt).1
        have g2 := (hb.cell (p := ⟨b0, off + k * 2 + 1, none⟩) hbl).trans (HC.out k hlt).2
        have hlt' : (k : Int) < (n : Int) := by omega
        rcases bool_cases ((nm ns k).2 == s) with ht | ht
        · have HQ : Hid (ToldR ns s (.returned (.tuple #[.string (nm ns k).1, .int .i64 0]))) := HT.out k hlt (beq_iff_eq.1 ht)
          clear hok
          generalize (nm ns k).1 = x at g1 HQ
          generalize (nm ns k).2 = y at g2 ht
          go_wp2
          go_ret2
          exact ⟨HQ.out, hb⟩
        · have HO : Hid (noLab ns s (k + 1)) := noLab_next hok.out (beq_eq_false_iff_ne.1 ht)
          clear hok
          generalize (nm ns k).1 = x at g1
          generalize (nm ns k).2 = y at g2 ht
          go_wp2
          go_round
          case rel => exact ⟨k + 1, by omega, by go_num, HO⟩
          case measure => simp [intOf]; omega
      · have hke : k = n := by omega
        have HQ : Hid (ToldR ns s (.returned (.tuple #[.string ByteArray.empty, .int .i64 12]))) := HF.out (by rw [← hke]; exact hok.out)
        have hlt' : ¬ (k : Int) < (n : Int) := by omega
        clear hke hok HF
        go_wp2
        go_ret2
        exact ⟨HQ.out, hb⟩
  · obtain rfl : ns = [] := List.eq_nil_of_length_eq_zero (by omega)
    obtain ⟨a, cap, rfl⟩ := hN.empty
    clear hN
    go_enter Try.func13, Try.ntmps13
    go_wp2_with (first | (go_at_call 8; (refine (fault_any _ [] _ HN.out hm).mono ?_); rw [hr]; rintro e w1 ⟨rfl, hb⟩))
    refine wp_loop_rounds 1 ?_; rw [rounds_succ]
    go_wp2
    go_ret2
    exact ⟨.inr ⟨fun j hj => absurd hj.1 (Nat.not_lt_zero _), rfl⟩, hb⟩
theorem told_hit (v : Value) (ns : List Nm) (s : Int) (w : World) (hN : Nms w v ns) (hm : ns.length ≤ maxLen) (hr : faultR ns = 0) (j : Nat) (hj : labAt ns s j) (y : ByteArray) (hy : (nm ns j).1 = y) :
    Calls Try.prog 13 #[v, .int .i64 s] w fun e w' => e = .returned (.tuple #[.string y, .int .i64 0]) ∧ Below w.heap.size w w' := by
  subst hy
  refine (told_ok v ns s w hN hm hr).mono ?_
  rintro e w' ⟨⟨i, hi, rfl⟩ | ⟨h, _⟩, hb⟩
  · rw [one_label (fault_ok hr).2.2.2 hi hj]; exact ⟨rfl, hb⟩
  · exact absurd hj (h j)
theorem told_miss (v : Value) (ns : List Nm) (s : Int) (w : World) (hN : Nms w v ns) (hm : ns.length ≤ maxLen) (hr : faultR ns = 0) (hj : ∀ j, ¬ labAt ns s j) :
    Calls Try.prog 13 #[v, .int .i64 s] w fun e w' => e = .returned (.tuple #[.string ByteArray.empty, .int .i64 12]) ∧ Below w.heap.size w w' := by
  refine (told_ok v ns s w hN hm hr).mono ?_
  rintro e w' ⟨⟨i, hi, rfl⟩ | ⟨h, rfl⟩, hb⟩
  · exact absurd hi (hj i)
  · exact ⟨rfl, hb⟩
end Go.Proofs.Ytljpbkkofalinaa.Wt
