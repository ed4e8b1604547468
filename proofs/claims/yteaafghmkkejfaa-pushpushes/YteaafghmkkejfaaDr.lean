/- The reference: a table of costs as an answer. -/
import Derived.Test.YteaafghmkkejfaaWx
import Derived.Test.YteaafghmkkejfaaJ15g
import Derived.Test.YteaafghmkkejfaaJ15i
namespace Go.Proofs.Yteaafghmkkejfaa.Wt
open Go.ChangeShapes Go.WideShapes Go.ChangeAt Go.RowKit
open Go.Proofs.Yteaafghmkkejfaa.Pl
set_option linter.unusedVariables false
set_option linter.unusedSimpArgs false
theorem tldE_two (b : Int) : tldE b = 0 ∨ tldE b = 4 := by
  unfold tldE
  split
  · exact .inl rfl
  · split
    · exact .inr rfl
    · exact .inl rfl
theorem toldN_any (b : Int) (w : World) :
    Calls Try.prog 64 #[.int .i64 b] w fun e w' => e = .returned (.tuple #[.int .i64 (tldN b), .int .i64 (tldE b)]) ∧ w = w' := told_ans b w
/-- What costs tells of a table. -/
def CstAns (cs vs : List Int) (ec : Int) : Prop := (ec = 0 ∧ vs = cs.map tldN ∧ ∀ q, q < cs.length → tldE (el cs q) = 0) ∨ (ec = 4 ∧ vs = [] ∧ ∃ q, q < cs.length ∧ tldE (el cs q) ≠ 0)
theorem CstAns.lst {P : Nat → Nat → Prop} {cs vs : List Int} {ec : Int} (h : CstAns cs vs ec) (ht : ∀ q, q < cs.length → TldQ (P q) (el cs q)) : LstAns P cs.length vs ec := by
  rcases h with ⟨rfl, rfl, hb⟩ | ⟨rfl, rfl, q, hq, hb⟩
  · exact lst_ok ht hb
  · exact lst_no ht hq hb
/-- costs(l). -/
theorem costs_any (v : Value) (cs : List Int) (w : World) (h : Nums w v cs) (hk : cs.length ≤ 100) :
    Calls Try.prog 46 #[v] w fun e w' => ∃ vr vs, ∃ ec : Int, e = .returned (.tuple #[vr, .int .i64 ec]) ∧ CstAns cs vs ec ∧ Nums w' vr vs ∧ Below w.heap.size w w' := by
  obtain ⟨i0, hi0, hz0, hz1, hz2⟩ := info_parts infoIntU
  obtain ⟨a, cap, rfl, hc⟩ := h.get
  have HC : Hid (∀ j, j < cs.length → ∃ b off, a = some ⟨b, off, none⟩ ∧ b < w.heap.size ∧ w.cell? ⟨b, off + j, none⟩ = some (.int .i64 (el cs j))) := hc
  clear h hc
  generalize hL : cs.length = L at *
  have HL := hidP hL
  clear hL
  go_enter Try.func46, Try.ntmps46
  go_wp2
  go_loopw [4, 5] (fun s4 i wr => ∃ (j : Nat) (vr : Value), j ≤ L ∧ vr = s4 ∧ i = .int .i64 j ∧ Hid (wr.ownsRow w.heap.size 3 1 vr j (((cs.take j).map tldN).flatMap encI1)) ∧ Hid (∀ q, q < j → tldE (el cs q) = 0) ∧ Hid (Below w.heap.size w wr)) (fun _ i _ => L - (intOf i).toNat)
  case atStart => exact ⟨0, _, Nat.zero_le _, rfl, rfl, World.ownsRow_nil _ _ _ _, fun q hq => absurd hq (by omega), Below.refl _ _⟩
  case round =>
    obtain ⟨j, vr, hj, rfl, rfl, hrw, hz, hb⟩ := hrel
    by_cases hjL : j < L
    · have hj1 : (j : Int) < (L : Int) := by omega
      have hj0 : (0 : Int) ≤ (j : Int) := by omega
      obtain ⟨b3, off3, rfl, hb3l, e0⟩ := HC.out j hjL
      have e0 := (hb.out.cell (p := ⟨b3, off3 + j, none⟩) hb3l).trans e0
      have HST : Hid ((cs.take (j + 1)).map tldN = (cs.take j).map tldN ++ [tldN (el cs j)]) := by
        show _ = _
        rw [take_el (by rw [HL.out]; exact hjL), List.map_append]
        rfl
      have HNO : Hid (tldE (el cs j) = 4 → CstAns cs [] 4) := fun h => .inr ⟨rfl, rfl, j, by rw [HL.out]; exact hjL, by rw [h]; decide⟩
      have HZ2 : Hid (tldE (el cs j) = 0 → ∀ q, q < j + 1 → tldE (el cs q) = 0) := fun h q hq => by
        by_cases e : q = j
        · rw [e]; exact h
        · exact hz.out q (by omega)
      have HTO := hidP (toldN_any (el cs j))
      have h04 := tldE_two (el cs j)
      generalize tldE (el cs j) = te at *
      generalize tldN (el cs j) = tn at *
      generalize el cs j = x at *
      generalize (cs.take j).map tldN = tl at *
      have HD := hrw
      clear hrw
      have hbs := hb.out.size
      rcases h04 with rfl | rfl
      · go_wp2_with (first
          | (go_at_call 64; (with_reducible refine (HTO.out _).mono ?_); rintro e w' ⟨rfl, rfl⟩)
          | (at_builtin; refine wpList_append_rows encI1_len (by decide) encI1_one rfl _ _ 37 rfl w.heap.size 3 i0 _ 8 Try.underlying37 hi0 hz0 hz1 hz2 rfl _ j (tl.flatMap encI1) rfl (HD.out.alloc _) _ [tn] rfl (oneRow (enc := encI1) wr tn rfl 3) (by simp; unfold maxLen; omega) (by simp; omega) (by simp; omega) ?_; intro v4 w4 ho4 hg4; have HO4 := hidP ho4; have HB4 : Hid (Below w.heap.size w w4) := (hb.out.alloc hbs _).grown hg4 (by simp; omega) (fun k hk => (HD.out.lt k hk).1); clear ho4 hg4))
        go_roundw
        case rel => exact ⟨j + 1, _, by omega, rfl, by go_num, by rw [HST.out, List.flatMap_append]; exact HO4.out, HZ2.out (by trivial), HB4⟩
        case measure => simp [intOf]; omega
      · go_wp2_with (first
          | (go_at_call 64; (with_reducible refine (HTO.out _).mono ?_); rintro e w' ⟨rfl, rfl⟩))
        go_ret2
        exact ⟨_, [], 4, rfl, HNO.out (by trivial), .inl ⟨rfl, rfl⟩, hb.out⟩
    · have hj1 : ¬ (j : Int) < (L : Int) := by omega
      obtain rfl : L = j := by omega
      have HE : Hid (cs.take L = cs) := by
        show _ = _
        rw [List.take_of_length_le (by rw [HL.out]; omega)]
      go_wp2
      go_ret2
      refine ⟨_, cs.map tldN, 0, rfl, .inl ⟨rfl, rfl, fun q hq => hz.out q (by rw [← HL.out]; exact hq)⟩, ?_, hb.out⟩
      have h1 := hrw.out
      rw [HE.out] at h1
      exact Row.ofOwn encI1_len h1 (by simp [HL.out])
end Go.Proofs.Yteaafghmkkejfaa.Wt
