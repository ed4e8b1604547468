/- The program: arcs, states and machines as bytes, behind others. -/
import Derived.Test.YtbbjpdadickilaaEn
namespace Go.Proofs.Ytbbjpdadickilaa.Wt
open Go.ChangeShapes Go.WideShapes Go.ChangeAt Go.RowKit
open Go.Proofs.Ytbbjpdadickilaa.Pl
set_option linter.unusedVariables false
set_option linter.unusedSimpArgs false
theorem appendNumber1 (v : Value) (l : List Int) (n : Int) (base : Nat) (w : World) (h : OwnBys w base v l) (hl : l.length ≤ 100000) (hbase : base ≤ w.heap.size) :
    Calls Try.prog 19 #[v, .int .i64 n, .int .i64 1] w fun e w' => AppAns v base (l ++ splitL n 1) w e w' := appendNumber_any v l n 1 base w h (by omega) hl hbase
theorem appendNumber2 (v : Value) (l : List Int) (n : Int) (base : Nat) (w : World) (h : OwnBys w base v l) (hl : l.length ≤ 100000) (hbase : base ≤ w.heap.size) :
    Calls Try.prog 19 #[v, .int .i64 n, .int .i64 2] w fun e w' => AppAns v base (l ++ splitL n 2) w e w' := appendNumber_any v l n 2 base w h (by omega) hl hbase
theorem appendNumber4 (v : Value) (l : List Int) (n : Int) (base : Nat) (w : World) (h : OwnBys w base v l) (hl : l.length ≤ 100000) (hbase : base ≤ w.heap.size) :
    Calls Try.prog 19 #[v, .int .i64 n, .int .i64 4] w fun e w' => AppAns v base (l ++ splitL n 4) w e w' := appendNumber_any v l n 4 base w h (by omega) hl hbase
theorem split_one {x : Int} (h0 : 0 ≤ x) (h1 : x < 256) : splitL x 1 = [x] := by
  show [x / 256 ^ 0 % 256] = [x]
  rw [Int.pow_zero]; congr 1; omega
set_option maxRecDepth 100000 in
theorem appendArc_any (v : Value) (l : List Int) (c : Ar) (base : Nat) (w : World) (h : OwnBys w base v l) (hl : l.length ≤ 90000) (hbase : base ≤ w.heap.size) (h3 : 0 ≤ c.2.2.2 ∧ c.2.2.2 < 256) :
    Calls Try.prog 43 #[v, .agg #[.int .i64 c.1, .int .i64 c.2.1, .int .i64 c.2.2.1, .int .i64 c.2.2.2]] w fun e w' => AppAns v base (l ++ packA c) w e w' := by
  have hP : packA c = splitL c.1 2 ++ splitL c.2.1 2 ++ splitL c.2.2.1 4 ++ splitL c.2.2.2 1 := by rw [split_one h3.1 h3.2]; rfl
  rw [hP]
  obtain ⟨x0, x1, x2, x3⟩ := c
  simp only at *
  clear hP h3
  obtain ⟨a0, n0, c0, hv⟩ := h.sl
  subst hv
  have hal : Below w.heap.size w (w.alloc (.cells #[.int .i64 x0, .int .i64 x1, .int .i64 x2, .int .i64 x3] 53)) := (Below.refl _ _).alloc (Nat.le_refl _) _
  have HT : Hid (AppTo w (.slice a0 n0 c0) base (w.alloc (.cells #[.int .i64 x0, .int .i64 x1, .int .i64 x2, .int .i64 x3] 53)) (.slice a0 n0 c0) l) := (AppTo.start h).new hal
  have HK : Hid (Blk (w.alloc (.cells #[.int .i64 x0, .int .i64 x1, .int .i64 x2, .int .i64 x3] 53)) w.heap.size #[.int .i64 x0, .int .i64 x1, .int .i64 x2, .int .i64 x3] 53) := Blk.made w _ _
  have HBS : Hid (∀ W v' l', AppTo w (.slice a0 n0 c0) base W v' l' → base ≤ W.heap.size) := fun W v' l' g => Nat.le_trans hbase g.2.1.size
  clear h hal hbase
  go_enter Try.func43, Try.ntmps43
  go_wp2_with (first
    | (go_at_call 19; (with_reducible refine (appendNumber4 _ _ _ _ _ HT.out.own (by (try simp only [List.length_append, splitL_len]); omega) (HBS.out _ _ _ HT.out)).mono ?_); rintro e w1 ⟨a1, n1, c1, rfl, ht⟩; have HK := hid (ht.blk HT.out.own HK.out (by decide)); have HT := hid (HT.out.trans ht); have g2 := HK.out.cell 2 (v := .int .i64 x2) rfl; have g3 := HK.out.cell 3 (v := .int .i64 x3) rfl; clear ht)
    | (go_at_call 19; (with_reducible refine (appendNumber2 _ _ _ _ _ HT.out.own (by (try simp only [List.length_append, splitL_len]); omega) (HBS.out _ _ _ HT.out)).mono ?_); rintro e w1 ⟨a1, n1, c1, rfl, ht⟩; have HK := hid (ht.blk HT.out.own HK.out (by decide)); have HT := hid (HT.out.trans ht); have g1 := HK.out.cell 1 (v := .int .i64 x1) rfl; have g2 := HK.out.cell 2 (v := .int .i64 x2) rfl; clear ht)
    | (go_at_call 19; (with_reducible refine (appendNumber1 _ _ _ _ _ HT.out.own (by (try simp only [List.length_append, splitL_len]); omega) (HBS.out _ _ _ HT.out)).mono ?_); rintro e w1 ⟨a1, n1, c1, rfl, ht⟩; have HT := hid (HT.out.trans ht); clear ht))
  go_ret
  refine ⟨_, _, _, rfl, ?_⟩
  have := HT.out
  simp only [← List.append_assoc]
  exact this
theorem packS_to (l : List Int) (f : Int) (ar : List Ar) (j : Nat) (h : j < ar.length) : l ++ (splitL f 4 ++ splitL ar.length 2 ++ (ar.take (j + 1)).flatMap packA) = l ++ (splitL f 4 ++ splitL ar.length 2 ++ (ar.take j).flatMap packA) ++ packA (el ar j) := by
  rw [take_el h]
  simp
set_option maxRecDepth 100000 in
theorem appendState_any (v : Value) (l : List Int) (f : Int) (ar : List Ar) (va : Value) (base : Nat) (w : World) (h : OwnBys w base v l) (hl : l.length + 9 * ar.length ≤ 80000) (hbase : base ≤ w.heap.size) (hA : ∀ W, Below base w W → Arcs W va ar) (h3 : ∀ c ∈ ar, 0 ≤ c.2.2.2 ∧ c.2.2.2 < 256) :
    Calls Try.prog 30 #[v, .agg #[.int .i64 f, va]] w fun e w' => AppAns v base (l ++ packS (f, ar)) w e w' := by
  have HS : Hid (l ++ packS (f, ar) = l ++ (splitL f 4 ++ splitL ar.length 2 ++ (ar.take ar.length).flatMap packA)) := by show _ = _; rw [List.take_length]; rfl
  have HJ : Hid (∀ j, j < ar.length → l ++ (splitL f 4 ++ splitL ar.length 2 ++ (ar.take (j + 1)).flatMap packA) = l ++ (splitL f 4 ++ splitL ar.length 2 ++ (ar.take j).flatMap packA) ++ packA (el ar j)) := fun j hj => packS_to l f ar j hj
  have HZ : Hid (l ++ splitL f 4 ++ splitL ar.length 2 = l ++ (splitL f 4 ++ splitL ar.length 2 ++ (ar.take 0).flatMap packA)) := by show _ = _; simp
  have HLN : Hid (∀ j, (l ++ (splitL f 4 ++ splitL ar.length 2 ++ (ar.take j).flatMap packA)).length ≤ 80006) := fun j => by
    simp only [List.length_append, splitL_len, packAs_len, List.length_take]; omega
  have H3 : Hid (∀ j, j < ar.length → 0 ≤ (el ar j).2.2.2 ∧ (el ar j).2.2.2 < 256) := fun j hj => h3 _ (el_mem hj)
  rw [HS.out]
  obtain ⟨a0, n0, c0, hv⟩ := h.sl
  subst hv
  have HAR : Hid (∀ W, Below base w W → Arcs W va ar) := hA
  obtain ⟨a2, cap2, hva, hvx⟩ := (hA w (Below.refl _ _)).get
  subst hva
  clear hvx
  have hal : Below w.heap.size w (w.alloc (.cells #[.int .i64 f, .slice a2 ar.length cap2] 45)) := (Below.refl _ _).alloc (Nat.le_refl _) _
  have HT : Hid (AppTo w (.slice a0 n0 c0) base (w.alloc (.cells #[.int .i64 f, .slice a2 ar.length cap2] 45)) (.slice a0 n0 c0) l) := (AppTo.start h).new hal
  have HK : Hid (Blk (w.alloc (.cells #[.int .i64 f, .slice a2 ar.length cap2] 45)) w.heap.size #[.int .i64 f, .slice a2 ar.length cap2] 45) := Blk.made w _ _
  have HBS : Hid (∀ W v' l', AppTo w (.slice a0 n0 c0) base W v' l' → base ≤ W.heap.size) := fun W v' l' g => Nat.le_trans hbase g.2.1.size
  have HBW : Hid (∀ W v' l', AppTo w (.slice a0 n0 c0) base W v' l' → Below base w W) := fun W v' l' g => g.below h hbase
  clear h hal hbase hA h3 HS
  generalize hL : ar.length = L at *
  have HL : Hid (ar.length = L) := hL
  clear hL
  obtain ⟨TT, hTT⟩ : ∃ TT : Nat → List Int, ∀ j, l ++ (splitL f 4 ++ splitL (L : Int) 2 ++ (ar.take j).flatMap packA) = TT j := ⟨_, fun _ => rfl⟩
  simp only [hTT] at HJ HZ HLN ⊢
  clear hTT
  go_enter Try.func30, Try.ntmps30
  go_wp2_with (first
    | (go_at_call 19; (with_reducible refine (appendNumber4 _ _ _ _ _ HT.out.own (by (try simp only [List.length_append, splitL_len]); omega) (HBS.out _ _ _ HT.out)).mono ?_); rintro e w1 ⟨a1, n1, c1, rfl, ht⟩; have HK := hid (ht.blk HT.out.1 HK.out (by decide)); have HT := hid (HT.out.trans ht); have g1 := HK.out.cell 1 (v := .slice a2 L cap2) rfl; clear ht)
    | (go_at_call 19; (with_reducible refine (appendNumber2 _ _ _ _ _ HT.out.own (by (try simp only [List.length_append, splitL_len]); omega) (HBS.out _ _ _ HT.out)).mono ?_); rintro e w1 ⟨a1, n1, c1, rfl, ht⟩; have HK := hid (ht.blk HT.out.1 HK.out (by decide)); have HT := hid (HT.out.trans ht); have g1 := HK.out.cell 1 (v := .slice a2 L cap2) rfl; clear ht))
  rw [HZ.out] at HT
  go_loopw [0, 19] (fun s0 i wr => ∃ (j : Nat), j ≤ L ∧ i = .int .i64 j ∧ Hid (AppTo w (.slice a0 n0 c0) base wr s0 (TT j))) (fun _ i _ => L - (intOf i).toNat)
  case atStart => exact ⟨0, Nat.zero_le _, rfl, HT⟩
  case round =>
    obtain ⟨j, hj, rfl, ht⟩ := hrel
    clear HT HK HZ g1
    obtain ⟨a5, n5, c5, hv5⟩ := ht.out.own.sl
    subst hv5
    by_cases hjL : j < L
    · obtain ⟨a2', cap2', hva, hga⟩ := (HAR.out wr (HBW.out _ _ _ ht.out)).get
      injection hva with hva1 hva2 hva3
      subst hva1 hva3
      clear hva2
      obtain ⟨b3, off3, rfl, hb3, e0, e1, e2, e3⟩ := hga j (by rw [HL.out]; exact hjL)
      have h3 := H3.out j hjL
      have hjs := HLN.out j
      have HJ1 : Hid (TT (j + 1) = TT j ++ packA (el ar j)) := HJ.out j hjL
      clear hga
      generalize el ar j = c at *
      have hal : Below wr.heap.size wr (wr.alloc (.cells #[.int .i64 c.1, .int .i64 c.2.1, .int .i64 c.2.2.1, .int .i64 c.2.2.2] 53)) := (Below.refl _ _).alloc (Nat.le_refl _) _
      have HT2 := hid (ht.out.new hal)
      have hj0 : (0 : Int) ≤ (j : Int) := by omega
      have hj1 : (j : Int) < (L : Int) := by omega
      clear hal
      go_wp2_with (first
        | (go_at_call 43; (with_reducible refine (appendArc_any _ _ c _ _ HT2.out.own (by omega) (HBS.out _ _ _ HT2.out) h3).mono ?_); rintro e w1 ⟨a1, n1, c1, rfl, ht1⟩; have HT3 := hid (HT2.out.trans ht1); clear ht1))
      go_roundw
      case rel => exact ⟨j + 1, by omega, by go_num, by rw [HJ1.out]; exact HT3⟩
      case measure => simp [intOf]; omega
    · have hnl : ¬ (j : Int) < (L : Int) := by omega
      obtain rfl : j = L := by omega
      go_wp2
      go_ret
      exact ⟨_, _, _, rfl, ht.out⟩
end Go.Proofs.Ytbbjpdadickilaa.Wt
