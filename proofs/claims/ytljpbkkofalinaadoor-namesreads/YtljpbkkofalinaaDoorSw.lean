/- What Show answers: the text of a table that is right, or what is wrong with it. -/
import Derived.Test.YtljpbkkofalinaaDoorCk
import Derived.Test.YtljpbkkofalinaaDoorBu
import Derived.Test.YtljpbkkofalinaaDoorTa
import Derived.Test.YtljpbkkofalinaaDoorPlainH
import Derived.Test.YtljpbkkofalinaaDoorShelf
import Derived.Deep.RegionWith
namespace Go.Proofs.YtljpbkkofalinaaDoor.Wt
open Go.ChangeShapes Go.WideShapes Go.ChangeAt Go.RowKit
open Go.Proofs.YtljpbkkofalinaaDoor.Pl
set_option linter.unusedVariables false
def Bld (B b : Nat) (l : List UInt8) (w : World) : Prop := Lib.IsBuilder 41 5 B b (Lib.byteCells l) w
theorem bat_later {B b : Nat} {p : Value} {bs : List Value} {w w' : World} (h : Lib.BuilderAt 41 5 B b p bs w) (hb : Below w.heap.size w w') : Lib.BuilderAt 41 5 B b p bs w' := by
  obtain ⟨h1, v, h2, h3, h4⟩ := h
  exact ⟨h1, v, (hb.block b (lt_of_block h2)).trans h2, h3.kept (row := none) ⟨hb.os, hb.tape, hb.output, hb.size, fun k hk _ => hb.block k hk⟩ (by
    cases hv : v.ownBlock with
    | none => exact .inl rfl
    | some k => exact .inr (by simp)), h4⟩
theorem Bld.later {B b : Nat} {l : List UInt8} {w w' : World} (h : Bld B b l w) (hb : Below w.heap.size w w') : Bld B b l w' := by
  rcases h with h | h
  · exact .inl (bat_later h hb)
  · exact .inr (bat_later h hb)
theorem Bld.lt {B b : Nat} {l : List UInt8} {w : World} (h : Bld B b l w) : b < w.heap.size := by
  rcases h with h | h
  · exact h.lt
  · exact h.lt
theorem Bld.made (w : World) : Bld w.heap.size w.heap.size [] (w.alloc (.cells #[.pointer none, .slice none 0 0] 41)) := by
  refine .inl ⟨Nat.le_refl _, .slice none 0 0, ?_, World.ownsRow_nil _ _ _ _, by simp [Value.ownBlock]⟩
  show (w.heap.push _)[w.heap.size]? = _
  simp
theorem bcell {W w1 : World} (hb : Below W.heap.size W w1) : (∀ b o, b < W.heap.size → w1.cell? ⟨b, o, none⟩ = W.cell? ⟨b, o, none⟩) ∧ (∀ b o, b < W.heap.size → w1.frozen? ⟨b, o, none⟩ = W.frozen? ⟨b, o, none⟩) :=
  ⟨fun b o h => hb.cell (p := ⟨b, o, none⟩) h, fun b o h => hb.frozen (p := ⟨b, o, none⟩) h⟩
theorem keepD {w w' : World} {x : ByteArray} {y : Int} {t : TypeId} (h : Below ((w.alloc (.cells #[.string x, .int .i64 y] t)).drew.heap.size) (w.alloc (.cells #[.string x, .int .i64 y] t)).drew w') :
    w'.cell? ⟨w.heap.size, 0, none⟩ = some (.string x) ∧ w'.cell? ⟨w.heap.size, 1, none⟩ = some (.int .i64 y) := by
  have hl : w.heap.size < (w.alloc (.cells #[.string x, .int .i64 y] t)).drew.heap.size := by show _ < (w.alloc (.cells #[.string x, .int .i64 y] t)).heap.size; simp
  constructor
  · rw [h.cell hl]; simp
  · rw [h.cell hl]; simp
theorem itoa_any (n : Int) (w : World) (ht : Tab w) (h : labB n = true) :
    Calls Tryd.prog 15 #[.int .i64 n] w fun e w' => e = .returned (.string (decS n)) ∧ Below w.heap.size w w' := by
  simp [labB] at h
  refine (Tryd.strconv_Itoa n (by omega) (by omega) w ht).mono ?_
  rintro e w' ⟨rfl, k, os, rfl⟩
  exact ⟨rfl, below_grow _ _ _⟩
theorem write_line (B b : Nat) (l : List UInt8) (s : ByteArray) (w : World) (h : Bld B b l w) (hlen : l.length ≤ 1000000) (hs : s.size ≤ 1000000) (hBw : B ≤ w.heap.size) :
    Calls Tryd.prog 14 #[.pointer (some ⟨b, 0, none⟩), .string s] w fun e w' => e = .returned (.tuple #[.int .i64 s.size, .nilIface]) ∧ (Bld B b (l ++ s.data.toList) w' ∧ Below B w w') := by
  refine (write_any B b (Lib.byteCells l) s w h (by rw [Lib.byteCells_length]; omega) hBw).mono ?_
  rintro e w' ⟨rfl, h1, h2⟩
  exact ⟨rfl, by unfold Bld; rw [Lib.byteCells, List.map_append]; exact h1, h2⟩
theorem string_any (B b : Nat) (l : List UInt8) (w : World) (h : Bld B b l w) (hBw : B ≤ w.heap.size) :
    Calls Tryd.prog 16 #[.pointer (some ⟨b, 0, none⟩)] w fun e w' => e = .returned (.string (textS l)) ∧ Below B w w' := Tryd.Builder_String_any B b l w h hBw
theorem show_bad (v : Value) (ns : List Nm) (w : World) (hN : Nms w v ns) (hm : ns.length ≤ maxLen) (r : Int) (hr : faultR ns = r) (h0 : r ≠ 0) :
    Calls Tryd.prog 7 #[v] w fun e w' => e = .returned (.tuple #[.string ByteArray.empty, .int .i64 r]) ∧ Below w.heap.size w w' := by
  have HN : Hid (Nms w v ns) := hN
  have h0' : (r != 0) = true := bne_iff_ne.2 h0
  clear hN
  go_enter Tryd.func7, Tryd.ntmps7
  go_wp2_with (first | (go_at_call 13; (with_reducible refine (check_any _ ns _ HN.out hm _ hr).mono ?_); rintro e w' ⟨rfl, hb⟩))
  go_ret2
  exact ⟨rfl, hb⟩
set_option maxHeartbeats 4000000 in
theorem show_some (b off cap : Nat) (ns : List Nm) (w : World) (hN : Nms w (.slice (some ⟨b, off, none⟩) ns.length cap) ns) (hm : ns.length ≤ maxLen) (hr : faultR ns = 0) (hbl : b < w.heap.size) (ht : Tab w)
    (hc : ∀ j, j < ns.length → w.cell? ⟨b, off + j * 2, none⟩ = some (.string (nm ns j).1) ∧ w.cell? ⟨b, off + j * 2 + 1, none⟩ = some (.int .i64 (nm ns j).2)) :
    Calls Tryd.prog 7 #[.slice (some ⟨b, off, none⟩) ns.length cap] w fun e w' => e = .returned (.tuple #[.string (showS ns), .int .i64 0]) ∧ Below w.heap.size w w' := by
  obtain ⟨hl, hL, hT, _⟩ := fault_ok hr
  have HN : Hid (Nms w (.slice (some ⟨b, off, none⟩) ns.length cap) ns) := hN
  have HC : Hid (∀ j, j < ns.length → w.cell? ⟨b, off + j * 2, none⟩ = some (.string (nm ns j).1) ∧ w.cell? ⟨b, off + j * 2 + 1, none⟩ = some (.int .i64 (nm ns j).2)) := hc
  have HL : Hid (∀ k, k < ns.length → labB (nm ns k).2 = true) := fun k hk => lab_of hL hk
  have HX : Hid (∀ k, k < ns.length → (nm ns k).1.size ≤ 12) := fun k hk => text_short (text_of hT hk)
  have HS : Hid (∀ k, k ≤ ns.length → (textTo ns k).length ≤ 34 * k) := textTo_short hL hT
  have HT : Hid (Tab w) := ht
  have HE : Hid (showS ns = textS (textTo ns ns.length)) := rfl
  clear hN hc hL hT ht
  generalize hn : ns.length = n at *
  go_enter Tryd.func7, Tryd.ntmps7
  go_wp2_with (first | (go_at_call 13; (refine (check_any _ ns _ HN.out (by rw [hn]; exact hm) _ hr).mono ?_); rintro e w1 ⟨rfl, hb1⟩))
  have hs1 := hb1.size
  go_loopw [15] (fun i wr => ∃ k : Nat, k ≤ n ∧ i = .int .i64 k ∧ Hid (Bld w1.heap.size w1.heap.size (textTo ns k) wr) ∧ Below w1.heap.size w1 wr) (fun i _ => n - (intOf i).toNat)
  case atStart => exact ⟨0, Nat.zero_le _, rfl, Bld.made w1, (Below.refl _ _).alloc (Nat.le_refl _) _⟩
  case round =>
    obtain ⟨k, hk, rfl, hB, hb⟩ := hrel
    have hws := hb.size
    by_cases hlt : k < n
    · have g1 := ((hb.cell (p := ⟨b, off + k * 2, none⟩) (by simp; omega)).trans (hb1.cell (p := ⟨b, off + k * 2, none⟩) hbl)).trans (HC.out k hlt).1
      have g2 := ((hb.cell (p := ⟨b, off + k * 2 + 1, none⟩) (by simp; omega)).trans (hb1.cell (p := ⟨b, off + k * 2 + 1, none⟩) hbl)).trans (HC.out k hlt).2
      have hlt' : (k : Int) < (n : Int) := by omega
      have HI : Hid (labB (nm ns k).2 = true) := HL.out k hlt
      have hx := HX.out k hlt
      have hd := decS_size HI.out
      have HQ : Hid (textTo ns (k + 1) = textTo ns k ++ lineL ((nm ns k).1, (nm ns k).2)) := rfl
      have HV : Hid ((textTo ns k).length ≤ 1000000) := by show _ ≤ _; have := HS.out k (by omega); omega
      have HT2 : Hid (∀ o, Tab (wr.alloc o).drew) := fun o => (HT.out.later hb1).later (((hb.alloc hws o).drew))
      have HB2 : Hid (∀ o, Bld w1.heap.size w1.heap.size (textTo ns k) (wr.alloc o).drew) := fun o => hB.out.later (((Below.refl _ _).alloc (Nat.le_refl _) _).drew)
      have HB3 : Hid (∀ o, Below w1.heap.size w1 (wr.alloc o).drew) := fun o => (hb.alloc hws o).drew
      generalize (nm ns k).1 = x at g1 hx HQ
      generalize (nm ns k).2 = y at g2 HI HQ hd
      have HY : Hid (∀ d, d = decS y → (x ++ ⟨#[32]⟩ ++ d ++ ⟨#[10]⟩).data.toList = lineL (x, y)) := fun d hd => by rw [hd, line_eq]; simp [textS]
      have HZ : Hid ((x ++ ⟨#[32]⟩ ++ decS y ++ ⟨#[10]⟩ : ByteArray).size ≤ 1000000) := by
        show _ ≤ _
        have e1 : (⟨#[32]⟩ : ByteArray).size = 1 := rfl
        have e2 : (⟨#[10]⟩ : ByteArray).size = 1 := rfl
        rw [ByteArray.size_append, ByteArray.size_append, ByteArray.size_append, e1, e2]; omega
      have n2 : ¬ 9223372036854775807 < x.size + 1 := by omega
      have n3 : ¬ 9223372036854775807 < x.size + 1 + (decS y).size := by omega
      have n4 : ¬ 9223372036854775807 < x.size + 1 + (decS y).size + 1 := by omega
      go_wp2_with fail
      go_region_with (first
        | (go_at_call 15; (with_reducible refine (itoa_any _ _ (HT2.out _) HI.out).mono ?_); rintro e w2 ⟨rfl, hb2⟩; have q0 := (keepD hb2).1; have q1 := (keepD hb2).2; have HB4 : Hid (Bld w1.heap.size w1.heap.size (textTo ns k) w2) := (HB2.out _).later hb2; have HB5 : Hid (Below w1.heap.size w1 w2) := (HB3.out _).trans (hb2.mono (HB3.out _).size); clear hb2)
        | (go_at_call 14; (with_reducible refine (write_line _ _ _ _ _ HB4.out HV.out HZ.out HB5.out.size).mono ?_); rintro e w3 ⟨rfl, hB3, hb3⟩))
      all_goals go_wp2
      all_goals go_roundw
      all_goals first
        | exact ⟨k + 1, by omega, by go_num, by rw [HQ.out, ← HY.out _ rfl]; exact hB3, HB5.out.trans hb3⟩
        | (simp [intOf]; omega)
    · have hke : k = n := by omega
      have HR : Hid (Bld w1.heap.size w1.heap.size (textTo ns n) wr) := by rw [← hke]; exact hB
      have hlt' : ¬ (k : Int) < (n : Int) := by omega
      clear hke hB
      go_wp2_with (first | (go_at_call 16; (with_reducible refine (string_any _ _ _ _ HR.out hws).mono ?_); rintro e w3 ⟨rfl, hb3⟩))
      go_ret2
      exact ⟨(congrArg (fun s => Ending.returned (.tuple #[.string s, .int .i64 0])) HE.out).symm, hb1.trans ((hb.trans hb3).mono hs1)⟩
theorem show_none (a : Option Addr) (cap : Nat) (w : World) (hN : Nms w (.slice a 0 cap) []) :
    Calls Tryd.prog 7 #[.slice a 0 cap] w fun e w' => e = .returned (.tuple #[.string (showS []), .int .i64 0]) ∧ Below w.heap.size w w' := by
  have HN : Hid (Nms w (.slice a 0 cap) []) := hN
  clear hN
  go_enter Tryd.func7, Tryd.ntmps7
  go_wp2_with (first | (go_at_call 13; (refine (check_any _ [] _ HN.out (by simp) _ rfl).mono ?_); rintro e w1 ⟨rfl, hb1⟩))
  have HR : Hid (Bld w1.heap.size w1.heap.size [] (w1.alloc (.cells #[.pointer none, .slice none 0 0] 41))) := Bld.made w1
  refine wp_loop_rounds 1 ?_; rw [rounds_succ]
  go_wp2_with (first | (go_at_call 16; (refine (string_any _ _ _ _ HR.out (by simp)).mono ?_); rintro e w3 ⟨rfl, hb3⟩))
  go_ret2
  exact ⟨rfl, hb1.trans ((((Below.refl _ _).alloc (Nat.le_refl _) _).trans hb3).mono hb1.size)⟩
theorem show_ok (v : Value) (ns : List Nm) (w : World) (hN : Nms w v ns) (hm : ns.length ≤ maxLen) (hr : faultR ns = 0) (ht : Tab w) (s : ByteArray) (hs : showS ns = s) :
    Calls Tryd.prog 7 #[v] w fun e w' => e = .returned (.tuple #[.string s, .int .i64 0]) ∧ Below w.heap.size w w' := by
  subst hs
  by_cases hz : 0 < ns.length
  · obtain ⟨b, off, cap, rfl, hbl, hc⟩ := hN.plain hz
    exact show_some b off cap ns w hN hm hr hbl ht hc
  · obtain rfl : ns = [] := List.eq_nil_of_length_eq_zero (by omega)
    obtain ⟨a, cap, rfl⟩ := hN.empty
    exact show_none a cap w hN
end Go.Proofs.YtljpbkkofalinaaDoor.Wt
