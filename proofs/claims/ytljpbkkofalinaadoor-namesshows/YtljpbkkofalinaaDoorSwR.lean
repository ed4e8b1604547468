/- What the reference's NamesShown answers. -/
import Derived.Test.YtljpbkkofalinaaDoorNmF
import Derived.Test.YtljpbkkofalinaaDoorDec
import Derived.Test.YtljpbkkofalinaaDoorPlainH
import Derived.Deep.RegionHeld3
namespace Go.Proofs.YtljpbkkofalinaaDoor.Wt
open Go.ChangeShapes Go.WideShapes Go.ChangeAt Go.RowKit
open Go.Proofs.YtljpbkkofalinaaDoor.Pl
set_option linter.unusedVariables false
theorem shown_bad (v : Value) (ns : List Nm) (w : World) (hN : Nms w v ns) (hm : ns.length ≤ maxLen) (r : Int) (hr : faultR ns = r) (h0 : r ≠ 0) :
    Calls Tryd.prog 8 #[v] w fun e w' => e = .returned (.tuple #[.string ByteArray.empty, .int .i64 r]) ∧ Below w.heap.size w w' := by
  have HN : Hid (Nms w v ns) := hN
  have h0' : (r != 0) = true := bne_iff_ne.2 h0
  clear hN
  go_enter Tryd.func8, Tryd.ntmps8
  go_wp2_with (first | (go_at_call 17; (with_reducible refine (fault_any _ ns _ HN.out hm).mono ?_); rw [hr]; rintro e w' ⟨rfl, hb⟩))
  go_ret2
  exact ⟨rfl, hb⟩
theorem dec_lab (n : Int) (w : World) (h : labB n = true) :
    Calls Tryd.prog 18 #[.int .i64 n] w fun e w' => e = .returned (.string (decS n)) ∧ Below w.heap.size w w' := by
  simp [labB] at h
  exact dec_any n w (by omega) (by omega) _ rfl
set_option maxHeartbeats 4000000 in
theorem shown_some (b off cap : Nat) (ns : List Nm) (w : World) (hN : Nms w (.slice (some ⟨b, off, none⟩) ns.length cap) ns) (hm : ns.length ≤ maxLen) (hr : faultR ns = 0) (hbl : b < w.heap.size)
    (hc : ∀ j, j < ns.length → w.cell? ⟨b, off + j * 2, none⟩ = some (.string (nm ns j).1) ∧ w.cell? ⟨b, off + j * 2 + 1, none⟩ = some (.int .i64 (nm ns j).2)) :
    Calls Tryd.prog 8 #[.slice (some ⟨b, off, none⟩) ns.length cap] w fun e w' => e = .returned (.tuple #[.string (showS ns), .int .i64 0]) ∧ Below w.heap.size w w' := by
  obtain ⟨hl, hL, hT, _⟩ := fault_ok hr
  have HN : Hid (Nms w (.slice (some ⟨b, off, none⟩) ns.length cap) ns) := hN
  have HC : Hid (∀ j, j < ns.length → w.cell? ⟨b, off + j * 2, none⟩ = some (.string (nm ns j).1) ∧ w.cell? ⟨b, off + j * 2 + 1, none⟩ = some (.int .i64 (nm ns j).2)) := hc
  have HL : Hid (∀ k, k < ns.length → labB (nm ns k).2 = true) := fun k hk => lab_of hL hk
  have HX : Hid (∀ k, k < ns.length → (nm ns k).1.size ≤ 12) := fun k hk => text_short (text_of hT hk)
  have HS : Hid (∀ k, k ≤ ns.length → (textTo ns k).length ≤ 34 * k) := textTo_short hL hT
  have HE : Hid (showS ns = textS (textTo ns ns.length)) := rfl
  clear hN hc hL hT
  generalize hn : ns.length = n at *
  go_enter Tryd.func8, Tryd.ntmps8
  go_wp2_with (first | (go_at_call 17; (refine (fault_any _ ns _ HN.out (by rw [hn]; exact hm)).mono ?_); rw [hr]; rintro e w1 ⟨rfl, hb1⟩))
  go_loopw [5, 6] (fun s i wr => ∃ k : Nat, k ≤ n ∧ i = .int .i64 k ∧ s = .string (textS (textTo ns k)) ∧ Below w.heap.size w wr) (fun _ i _ => n - (intOf i).toNat)
  case atStart => exact ⟨0, Nat.zero_le _, rfl, rfl, hb1⟩
  case round =>
    obtain ⟨k, hk, rfl, rfl, hb⟩ := hrel
    have hws := hb.size
    by_cases hlt : k < n
    · have g1 := (hb.cell (p := ⟨b, off + k * 2, none⟩) hbl).trans (HC.out k hlt).1
      have g2 := (hb.cell (p := ⟨b, off + k * 2 + 1, none⟩) hbl).trans (HC.out k hlt).2
      have hlt' : (k : Int) < (n : Int) := by omega
      have HI : Hid (labB (nm ns k).2 = true) := HL.out k hlt
      have hx := HX.out k hlt
      have hd := decS_size HI.out
      have ha : (textS (textTo ns k)).size ≤ 3400 := by have := HS.out k (by omega); have e : (textS (textTo ns k)).size = (textTo ns k).length := rfl; omega
      have HQ : Hid (textTo ns (k + 1) = textTo ns k ++ lineL ((nm ns k).1, (nm ns k).2)) := rfl
      generalize (nm ns k).1 = x at g1 hx HQ
      generalize (nm ns k).2 = y at g2 HI HQ hd
      have HY : Hid (textS (textTo ns k) ++ x ++ ⟨#[32]⟩ ++ decS y ++ ⟨#[10]⟩ = textS (textTo ns (k + 1))) := by show _ = _; rw [line_eq2, HQ.out]
      generalize textS (textTo ns k) = acc at ha HY
      generalize hdd : decS y = d at hd HY
      have HI2 : Hid (∀ w : World, Calls Tryd.prog 18 #[.int .i64 y] w fun e w' => e = .returned (.string d) ∧ Below w.heap.size w w') := fun w => by rw [← hdd]; exact dec_lab y w HI.out
      clear HI hdd HQ
      have n1 : ¬ 9223372036854775807 < acc.size + x.size := by omega
      have n2 : ¬ 9223372036854775807 < acc.size + x.size + 1 := by omega
      have n3 : ¬ 9223372036854775807 < acc.size + x.size + 1 + d.size := by omega
      have n4 : ¬ 9223372036854775807 < acc.size + x.size + 1 + d.size + 1 := by omega
      go_wp2_with fail
      go_region_held3 (fun w' => Below w.heap.size w w' ∧ w'.cell? ⟨b, off + k * 2, none⟩ = some (.string x) ∧ w'.cell? ⟨b, off + k * 2 + 1, none⟩ = some (.int .i64 y)) (((try go_split_ands); refine ⟨?_, ?_, ?_⟩ <;> first | (with_reducible assumption) | exact hb.drew | exact g1 | exact g2)) (first | (go_at_call 18; (with_reducible refine (HI2.out _).mono ?_); rintro e w2 ⟨rfl, hb2⟩; have k1 : Below w.heap.size w w2 := hb.drew.trans (hb2.mono hws); have k2 : w2.cell? ⟨b, off + k * 2, none⟩ = some (.string x) := (hb2.cell (p := ⟨b, off + k * 2, none⟩) (Nat.lt_of_lt_of_le hbl hws)).trans g1; have k3 : w2.cell? ⟨b, off + k * 2 + 1, none⟩ = some (.int .i64 y) := (hb2.cell (p := ⟨b, off + k * 2 + 1, none⟩) (Nat.lt_of_lt_of_le hbl hws)).trans g2))
      all_goals go_split_ands
      all_goals go_wp2
      all_goals go_roundw
      all_goals first
        | exact ⟨k + 1, by omega, by go_num, by rw [HY.out], by with_reducible assumption⟩
        | (simp [intOf]; omega)
    · have hke : k = n := by omega
      have hlt' : ¬ (k : Int) < (n : Int) := by omega
      have HR : Hid (showS ns = textS (textTo ns k)) := by rw [hke]; exact HE
      clear hke HE
      go_wp2
      go_ret2
      exact ⟨(congrArg (fun s => Ending.returned (.tuple #[.string s, .int .i64 0])) HR.out).symm, hb⟩
theorem shown_none (a : Option Addr) (cap : Nat) (w : World) (hN : Nms w (.slice a 0 cap) []) :
    Calls Tryd.prog 8 #[.slice a 0 cap] w fun e w' => e = .returned (.tuple #[.string (showS []), .int .i64 0]) ∧ Below w.heap.size w w' := by
  have HN : Hid (Nms w (.slice a 0 cap) []) := hN
  clear hN
  go_enter Tryd.func8, Tryd.ntmps8
  go_wp2_with (first | (go_at_call 17; (refine (fault_any _ [] _ HN.out (by simp)).mono ?_); rw [show faultR [] = 0 from rfl]; rintro e w1 ⟨rfl, hb1⟩))
  refine wp_loop_rounds 1 ?_; rw [rounds_succ]
  go_wp2
  go_ret2
  exact ⟨rfl, hb1⟩
theorem shown_ok (v : Value) (ns : List Nm) (w : World) (hN : Nms w v ns) (hm : ns.length ≤ maxLen) (hr : faultR ns = 0) (s : ByteArray) (hs : showS ns = s) :
    Calls Tryd.prog 8 #[v] w fun e w' => e = .returned (.tuple #[.string s, .int .i64 0]) ∧ Below w.heap.size w w' := by
  subst hs
  by_cases hz : 0 < ns.length
  · obtain ⟨b, off, cap, rfl, hbl, hc⟩ := hN.plain hz
    exact shown_some b off cap ns w hN hm hr hbl hc
  · obtain rfl : ns = [] := List.eq_nil_of_length_eq_zero (by omega)
    obtain ⟨a, cap, rfl⟩ := hN.empty
    exact shown_none a cap w hN
end Go.Proofs.YtljpbkkofalinaaDoor.Wt
