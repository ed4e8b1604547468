/- The keeping statements' sum of two costs. The keeping statements' words, and what a machine costs for them. -/
import Derived.Test.YtfekmlblldhieaaDoorJ17j
import Derived.Test.YtfekmlblldhieaaDoorJ17a
import Derived.Test.YtfekmlblldhieaaDoorJ17i
import Derived.Test.YtfekmlblldhieaaDoorJ17m
import Derived.Test.YtfekmlblldhieaaDoorRn
namespace Go.Proofs.YtfekmlblldhieaaDoor.Wt
open Go.ChangeShapes Go.WideShapes Go.ChangeAt Go.RowKit
open Go.Proofs.YtfekmlblldhieaaDoor.Pl
set_option linter.unusedVariables false
set_option linter.unusedSimpArgs false
end Go.Proofs.YtfekmlblldhieaaDoor.Wt
namespace Go.Proofs.YtfekmlblldhieaaDoor.Wt
open Go.ChangeShapes Go.WideShapes Go.ChangeAt Go.RowKit
open Go.Proofs.YtfekmlblldhieaaDoor.Pl
set_option linter.unusedVariables false
set_option linter.unusedSimpArgs false
/-- word(l, k). -/
theorem word_own (v : Value) (l : List Int) (k : Nat) (w : World) (h : Nums w v l) (hwf : ∀ n ∈ l, (Lit.int .i64 n).wf = true) (hk : k ≤ 12) :
    Calls Tryd.prog 12 #[v, .int .i64 (k : Int)] w fun e w' => ∃ v', e = .returned v' ∧ (Nums w' v' (wdL l k) ∧ ∃ n, w'.ownsRow w.heap.size 3 1 v' n ((wdL l k).flatMap encI1)) ∧ Below w.heap.size w w' := by
  obtain ⟨i0, hi0, hz0, hz1, hz2⟩ := info_parts infoIntU
  obtain ⟨a, cap, rfl, hc⟩ := h.get
  have HC : Hid (∀ j, j < l.length → ∃ b off, a = some ⟨b, off, none⟩ ∧ b < w.heap.size ∧ w.cell? ⟨b, off + j, none⟩ = some (.int .i64 (el l j))) := hc
  have HWF := hidP hwf
  clear h hc hwf
  generalize hL : l.length = L at *
  have HL := hidP hL
  clear hL
  go_enter Tryd.func12, Tryd.ntmps12
  go_wp2
  go_loopw [5, 6] (fun s5 i wr => ∃ (j : Nat) (vr : Value), j ≤ L ∧ j ≤ k ∧ vr = s5 ∧ i = .int .i64 j ∧ Hid (wr.ownsRow w.heap.size 3 1 vr j ((wdL l j).flatMap encI1)) ∧ Hid (Below w.heap.size w wr)) (fun _ i _ => L - (intOf i).toNat)
  case atStart => exact ⟨0, _, Nat.zero_le _, Nat.zero_le _, rfl, rfl, World.ownsRow_nil _ _ _ _, Below.refl _ _⟩
  case round =>
    obtain ⟨j, vr, hj, hjk, rfl, rfl, hrw, hb⟩ := hrel
    by_cases hjL : j < L
    · have hj1 : (j : Int) < (L : Int) := by omega
      have hj0 : (0 : Int) ≤ (j : Int) := by omega
      by_cases hjk2 : j < k
      · have hj2 : (j : Int) < (k : Int) := by omega
        obtain ⟨b3, off3, rfl, hb3l, e0⟩ := HC.out j hjL
        have e0 := (hb.out.cell (p := ⟨b3, off3 + j, none⟩) hb3l).trans e0
        have HST : Hid (wdL l (j + 1) = wdL l j ++ [1 + pkR (el l j) 2]) := by
          show _ = _
          unfold wdL
          rw [take_el (by rw [HL.out]; exact hjL), List.map_append]
          rfl
        have hwf := HWF.out _ (el_mem (l := l) (j := j) (by rw [HL.out]; exact hjL))
        have hp := pkR_bd (el l j) 2 (by omega)
        obtain ⟨r, hr⟩ : ∃ r, pkR (el l j) 2 = r := ⟨_, rfl⟩
        have HPK : Hid (∀ W, Calls Tryd.prog 24 #[.int .i64 (el l j), .int .i64 2] W fun e w' => e = .returned (.int .i64 r) ∧ W = w') := fun W => (picked_R (el l j) 2 W hwf (by omega) (by omega) r hr).mono fun e w' ⟨h1, h2⟩ => ⟨h1, by first | exact h2 | exact h2.symm⟩
        rw [hr] at HST hp
        clear hr hwf
        generalize el l j = x at *
        have hw3 : IntKind.i64.wrap (1 + r) = 1 + r := wrapI (by omega) (by omega)
        generalize wdL l j = tl at *
        have HD := hrw
        clear hrw
        have hbs := hb.out.size
        go_wp2_with (first
          | (go_at_call 24; (with_reducible refine (HPK.out _).mono ?_); rintro e w' ⟨rfl, rfl⟩)
          | (at_builtin; refine wpList_append_rows encI1_len (by decide) encI1_one rfl _ _ 34 rfl w.heap.size 3 i0 _ 8 Tryd.underlying34 hi0 hz0 hz1 hz2 rfl _ j (tl.flatMap encI1) rfl (HD.out.alloc _) _ [1 + r] rfl (oneRow (enc := encI1) wr (1 + r) rfl 3) (by simp; unfold maxLen; omega) (by simp; omega) (by simp; omega) ?_; intro v4 w4 ho4 hg4; have HO4 := hidP ho4; have HB4 : Hid (Below w.heap.size w w4) := (hb.out.alloc hbs _).grown hg4 (by simp; omega) (fun k hk => (HD.out.lt k hk).1); clear ho4 hg4))
        go_roundw
        case rel => exact ⟨j + 1, _, by omega, by omega, rfl, by go_num, by rw [HST.out, List.flatMap_append]; exact HO4.out, HB4⟩
        case measure => simp [intOf]; omega
      · have hj2 : ¬ (j : Int) < (k : Int) := by omega
        obtain rfl : j = k := by omega
        go_wp2
        go_ret
        exact ⟨_, rfl, ⟨Row.ofOwn encI1_len hrw.out (by rw [wdL, List.length_map, List.length_take, HL.out]; omega), _, hrw.out⟩, hb.out⟩
    · have hj1 : ¬ (j : Int) < (L : Int) := by omega
      have HE : Hid (wdL l j = wdL l k) := by
        show _ = _
        unfold wdL
        rw [List.take_of_length_le (by rw [HL.out]; omega), List.take_of_length_le (by rw [HL.out]; omega)]
      go_wp2
      go_ret
      exact ⟨_, rfl, by rw [← HE.out]; exact ⟨Row.ofOwn encI1_len hrw.out (by rw [wdL, List.length_map, List.length_take, HL.out]; omega), _, hrw.out⟩, hb.out⟩
theorem word_any (v : Value) (l : List Int) (k : Nat) (w : World) (h : Nums w v l) (hwf : ∀ n ∈ l, (Lit.int .i64 n).wf = true) (hk : k ≤ 12) :
    Calls Tryd.prog 12 #[v, .int .i64 (k : Int)] w fun e w' => ∃ v', e = .returned v' ∧ Nums w' v' (wdL l k) ∧ Below w.heap.size w w' := (word_own v l k w h hwf hk).mono fun e w' ⟨v', h1, h2, h3⟩ => ⟨v', h1, h2.1, h3⟩
end Go.Proofs.YtfekmlblldhieaaDoor.Wt
