/- The program: a machine as a text (where the table of powers of ten that the standard library reads is as its text lays it). -/
import Derived.Test.YtbbjpdadickilaaDoorJ9d
import Derived.Test.YtbbjpdadickilaaDoorPf
import Derived.Test.YtbbjpdadickilaaDoorMcV
namespace Go.Proofs.YtbbjpdadickilaaDoor.Pl
theorem right_arcs {z : Int} {l : List St} (hr : faultM (z, l) = 0) {j : Nat} (hj : j < l.length) : (el l j).2.length ≤ 400 := by
  have h1 := arcN_take hj
  have h2 : arcN (l.take (j + 1)) ≤ arcN l := by
    conv => rhs; rw [← List.take_append_drop (j + 1) l, arcN_append]
    omega
  have h3 := (right_size hr).2
  omega
end Go.Proofs.YtbbjpdadickilaaDoor.Pl
namespace Go.Proofs.YtbbjpdadickilaaDoor.Wt
open Go.ChangeShapes Go.WideShapes Go.ChangeAt Go.RowKit
open Go.Proofs.YtbbjpdadickilaaDoor.Pl
set_option linter.unusedVariables false
set_option linter.unusedSimpArgs false
set_option maxRecDepth 100000 in
theorem showP_bad (v : Value) (m : Mc) (w : World) (h : Mach w v m) (hok : okM m) (r : Int) (hr : faultM m = r) (h0 : r ≠ 0) :
    Calls Tryd.prog 7 #[v] w fun e w' => e = .returned (.tuple #[.string (textS (shownT m r)), .int .i64 r]) ∧ Below w.heap.size w w' := by
  obtain ⟨z, l⟩ := m
  have HM : Hid (Mach w v (z, l)) := h
  have HK : Hid (okM (z, l)) := hok
  have HR : Hid (faultM (z, l) = r) := hr
  have HT : Hid (textS (shownT (z, l) r) = ⟨#[]⟩) := by show _ = _; unfold shownT; rw [if_neg h0]; rfl
  have h0' : (r != 0) = true := bne_iff_ne.2 h0
  obtain ⟨vs, rfl, hS⟩ := h
  obtain ⟨a, cap, rfl⟩ := hS.sl
  clear hS hok hr
  generalize textS (shownT (z, l) r) = T at *
  go_enter Tryd.func7, Tryd.ntmps7
  go_wp2_with (first
    | (go_at_call 5; (with_reducible refine (coreCheck_any _ (z, l) _ (HM.out.later (B := w.heap.size) (by go_grown) (Nat.le_refl _)) HK.out r HR.out).mono ?_); rintro e w1 ⟨rfl, hb⟩; obtain ⟨s1, b1, hb1⟩ := boxed hb (by simp); have HB1 : Hid (Below w.heap.size w w1) := hb1; clear b1 hb1 hb))
  exact bodyPost_ret (v := .tuple #[.string ⟨#[]⟩, .int .i64 r]) (by simp [results, Tryd.results7, go_sem]) rfl ⟨by rw [HT.out], HB1.out⟩
theorem headT_ne (z : Int) : headT z ≠ [] := by unfold headT; simp
set_option maxRecDepth 100000 in
set_option maxHeartbeats 3200000 in
theorem showP_ok (z : Int) (l : List St) (vs : Value) (w : World) (h : Mach w (.agg #[.int .i64 z, vs]) (z, l)) (hok : okM (z, l)) (hr : faultM (z, l) = 0) (htab : Tab w) :
    Calls Tryd.prog 7 #[.agg #[.int .i64 z, vs]] w fun e w' => e = .returned (.tuple #[.string (textS (textM (z, l))), .int .i64 0]) ∧ Below w.heap.size w w' := by
  have HM : Hid (Mach w (.agg #[.int .i64 z, vs]) (z, l)) := h
  have HK : Hid (okM (z, l)) := hok
  have HR : Hid (faultM (z, l) = 0) := hr
  have hz := (faultM_zero hr).2
  simp only [rangeB, Bool.and_eq_true, inB, decide_eq_true_eq] at hz
  have hz1 : -1 ≤ z := hz.1.1
  have h60 := (right_size hr).1
  have hz2 : z ≤ 60 := by omega
  obtain ⟨vs', hvs, hS⟩ := h
  simp only [Value.agg.injEq, Array.mk.injEq, List.cons.injEq, and_true, true_and] at hvs
  subst hvs
  obtain ⟨a, cap, rfl, hc⟩ := hS.get
  have HC : Hid (∀ j, j < l.length → ∃ b off va, a = some ⟨b, off, none⟩ ∧ b < w.heap.size ∧ w.cell? ⟨b, off + j * 2, none⟩ = some (.int .i64 (el l j).1) ∧ w.cell? ⟨b, off + j * 2 + 1, none⟩ = some va ∧ Arcs w va (el l j).2) := hc
  have HST : Hid (∀ j, j < l.length → finB (el l j).1 = true ∧ (el l j).2.all (arcB l.length) = true ∧ (el l j).2.length ≤ 400) := fun j hj => ⟨(right_st hr hj).1, (right_st hr hj).2, right_arcs hr hj⟩
  have hts := textM_short hr
  have HTA : Hid (∀ k j, k < l.length → (textTa z l k j).length ≤ 20000) := fun k j hk => Nat.le_trans (textTa_le hk) hts
  have HTK : Hid (∀ k, k < l.length → (textTk z l k).length ≤ 20000) := fun k hk => Nat.le_trans (textTk_le hk) hts
  have HTN : Hid (textTk z l l.length = textM (z, l)) := textTk_all z l
  have HNE : Hid (∀ k, textTk z l k ≠ []) := fun k e => headT_ne z (List.append_eq_nil_iff.1 e).1
  have HTS : Hid (∀ k, k < l.length → textTk z l (k + 1) = textTa z l k (el l k).2.length) := fun k hk => textTk_succ hk
  have HZ0 : Hid ([] ++ headT z = textTk z l 0) := by show _ = _; simp [textTk]
  have HTB : Hid (Tab w) := htab
  clear hS hc hr hz hok hts htab
  generalize hn : l.length = n at *
  have HN : Hid (l.length = n) := hn
  clear hn
  generalize textM (z, l) = TM at *
  go_enter Tryd.func7, Tryd.ntmps7
  go_wp2_with (first
    | (go_at_call 5; (with_reducible refine (coreCheck_any _ (z, l) _ (HM.out.later (B := w.heap.size) (by go_grown) (Nat.le_refl _)) HK.out 0 HR.out).mono ?_); rintro e w1 ⟨rfl, hb⟩; obtain ⟨s1, b1, hb1⟩ := boxed hb (by simp); have HB1 : Hid (Below w.heap.size w w1) := hb1; have K1 : Hid (Blk w1 w.heap.size #[.int .i64 z, .slice a n cap] 24) := b1; have c0 := fun o => (b1.alloc o).cell 0 (v := .int .i64 z) rfl; have HB0 : Hid (Bld w1.heap.size w1.heap.size [] (w1.alloc (.cells #[.pointer none, .slice none 0 0] 46))) := Bld.made w1; have HT1 : Hid (∀ W, Below w1.heap.size w1 W → Tab W) := (fun W hW => (HTB.out.later hb1).later hW); have HA0 : Hid (∀ o, Below w1.heap.size w1 (w1.alloc o)) := (fun o => (Below.refl _ _).alloc (Nat.le_refl _) o); have HZ1 : Hid (w1.heap.size ≤ (w1.alloc (.cells #[.pointer none, .slice none 0 0] 46)).heap.size) := (by show _ ≤ _; simp); clear b1 hb1 hb)
    | (go_at_call 16; (with_reducible refine (start_any w1.heap.size w1.heap.size [] z _ HB0.out (HT1.out _ (HA0.out _)) hz1 hz2 (Nat.zero_le _) HZ1.out (textTk z l 0) HZ0.out).mono ?_); rintro e w2 ⟨rfl, hB2, hb2, ho2⟩; have HB2 : Hid (Bld w1.heap.size w1.heap.size (textTk z l 0) w2) := hB2; have HW2 : Hid (Below w1.heap.size w1 w2) := (HA0.out _).trans hb2; have c1 := (K1.out.below HW2.out K1.out.lt).cell 1 (v := .slice a n cap) rfl; clear hB2 hb2 ho2))
  go_loopw [21] (fun i wr => ∃ (k : Nat), k ≤ n ∧ i = .int .i64 k ∧ Hid (Bld w1.heap.size w1.heap.size (textTk z l k) wr) ∧ Hid (Below w1.heap.size w1 wr)) (fun i _ => n - (intOf i).toNat)
  case atStart => exact ⟨0, Nat.zero_le _, rfl, HB2, HW2⟩
  case round =>
    clear HZ0 HB0 HA0 HZ1 c0 HB2 HW2 c1
    obtain ⟨k, hk, rfl, hbd, hb⟩ := hrel
    by_cases hkn : k < n
    · obtain ⟨b, off, va, rfl, hbl, g0, g1, gA⟩ := HC.out k hkn
      obtain ⟨a2, cap2, hva, hga⟩ := gA.get
      subst hva
      have HBL : Hid (∀ b, b < w.heap.size → b < w1.heap.size) := fun b h => Nat.lt_of_lt_of_le h HB1.out.size
      have g0 := ((hb.out.cell (p := ⟨b, off + k * 2, none⟩) (HBL.out b hbl)).trans (HB1.out.cell (p := ⟨b, off + k * 2, none⟩) hbl)).trans g0
      have g1 := ((hb.out.cell (p := ⟨b, off + k * 2 + 1, none⟩) (HBL.out b hbl)).trans (HB1.out.cell (p := ⟨b, off + k * 2 + 1, none⟩) hbl)).trans g1
      have HGA : Hid (∀ j, j < (el l k).2.length → ∃ b off, a2 = some ⟨b, off, none⟩ ∧ b < w.heap.size ∧ w.cell? ⟨b, off + j * 4, none⟩ = some (.int .i64 (el (el l k).2 j).1) ∧ w.cell? ⟨b, off + j * 4 + 1, none⟩ = some (.int .i64 (el (el l k).2 j).2.1) ∧ w.cell? ⟨b, off + j * 4 + 2, none⟩ = some (.int .i64 (el (el l k).2 j).2.2.1) ∧ w.cell? ⟨b, off + j * 4 + 3, none⟩ = some (.int .i64 (el (el l k).2 j).2.2.2)) := hga
      obtain ⟨hfin, harc, hL4⟩ := HST.out k hkn
      have HAR : Hid ((el l k).2.all (arcB n) = true) := harc
      have HSA : Hid (∀ o, Calls Tryd.prog 17 #[.pointer (some ⟨w1.heap.size, 0, none⟩), .int .i64 (el l k).1] (wr.alloc o) fun e w' => e = .returned (.tuple #[]) ∧ (Bld w1.heap.size w1.heap.size (textTa z l k 0) w' ∧ Below w1.heap.size (wr.alloc o) w' ∧ Oth (wr.alloc o) w')) := fun o =>
        state_any w1.heap.size w1.heap.size (textTk z l k) (el l k).1 _ (hbd.out.later ((Below.refl _ _).alloc (Nat.le_refl _) o)) (HT1.out _ (hb.out.alloc hb.out.size o)) hfin (by have := HTK.out k hkn; omega) (by simp; exact Nat.le_succ_of_le hb.out.size) _ (textTa_zero z l k).symm
      have HTJ : Hid (∀ j, j < (el l k).2.length → textTa z l k (j + 1) = textTa z l k j ++ arcT (el (el l k).2 j)) := fun j hj => textTa_succ hj
      have HTE : Hid (textTk z l (k + 1) = textTa z l k (el l k).2.length) := HTS.out k hkn
      have HTC : Hid (∀ j, (textTa z l k j).length ≤ 20000) := fun j => HTA.out k j hkn
      clear gA hga harc hfin
      generalize (el l k).1 = fin at *
      generalize (el l k).2 = ar at *
      generalize textTa z l k = TA at *
      generalize hL : ar.length = L at *
      have HL : Hid (ar.length = L) := hL
      clear hL
      have hk0 : (0 : Int) ≤ (k : Int) := by omega
      have hk1 : (k : Int) < (n : Int) := by omega
      go_wp2_with (first
        | (go_at_call 17; (with_reducible refine (HSA.out _).mono ?_); rintro e w3 ⟨rfl, hB3, hb3, ho3⟩; have HB3 : Hid (Bld w1.heap.size w1.heap.size (TA 0) w3) := hB3; have HW3 : Hid (Below w1.heap.size w1 w3) := (hb.out.alloc hb.out.size _).trans hb3; have c3 := Blk.cell (t := 50) (ho3 wr.heap.size _ _ _ (Blk.made wr #[.int .i64 fin, .slice a2 L cap2] 50) (by decide) (by decide)) 1 (v := .slice a2 L cap2) rfl; clear hB3 hb3 ho3))
      go_loopw [31] (fun i wr => ∃ (j : Nat), j ≤ L ∧ i = .int .i64 j ∧ Hid (Bld w1.heap.size w1.heap.size (TA j) wr) ∧ Hid (Below w1.heap.size w1 wr)) (fun i _ => L - (intOf i).toNat)
      case atStart => exact ⟨0, Nat.zero_le _, rfl, HB3, HW3⟩
      case round =>
        clear HSA HB3 HW3 c3 g0 g1 hbd hb
        obtain ⟨j, hj, rfl, hbd, hb⟩ := hrel
        by_cases hjL : j < L
        · obtain ⟨b3, off3, rfl, hb3l, e0, e1, e2, e3⟩ := HGA.out j hjL
          have hcar := List.all_eq_true.1 HAR.out (el ar j) (el_mem (by rw [HL.out]; exact hjL))
          have HJ := HTJ.out j hjL
          have hjs := HTC.out j
          have HAA : Hid (∀ o, Calls Tryd.prog 18 #[.pointer (some ⟨w1.heap.size, 0, none⟩), .agg #[.int .i64 (el ar j).1, .int .i64 (el ar j).2.1, .int .i64 (el ar j).2.2.1, .int .i64 (el ar j).2.2.2]] (wr.alloc o) fun e w' => e = .returned (.tuple #[]) ∧ (Bld w1.heap.size w1.heap.size (TA (j + 1)) w' ∧ Below w1.heap.size (wr.alloc o) w' ∧ Oth (wr.alloc o) w')) := fun o =>
            arc_any w1.heap.size w1.heap.size (TA j) n (el ar j) _ (hbd.out.later ((Below.refl _ _).alloc (Nat.le_refl _) o)) (HT1.out _ (hb.out.alloc hb.out.size o)) h60 hcar (by omega) (by simp; exact Nat.le_succ_of_le hb.out.size) _ HJ.symm
          have e0 := ((hb.out.cell (p := ⟨b3, off3 + j * 4, none⟩) (HBL.out b3 hb3l)).trans (HB1.out.cell (p := ⟨b3, off3 + j * 4, none⟩) hb3l)).trans e0
          have e1 := ((hb.out.cell (p := ⟨b3, off3 + j * 4 + 1, none⟩) (HBL.out b3 hb3l)).trans (HB1.out.cell (p := ⟨b3, off3 + j * 4 + 1, none⟩) hb3l)).trans e1
          have e2 := ((hb.out.cell (p := ⟨b3, off3 + j * 4 + 2, none⟩) (HBL.out b3 hb3l)).trans (HB1.out.cell (p := ⟨b3, off3 + j * 4 + 2, none⟩) hb3l)).trans e2
          have e3 := ((hb.out.cell (p := ⟨b3, off3 + j * 4 + 3, none⟩) (HBL.out b3 hb3l)).trans (HB1.out.cell (p := ⟨b3, off3 + j * 4 + 3, none⟩) hb3l)).trans e3
          clear HJ hcar
          generalize el ar j = c at *
          generalize c.1 = x0 at *
          generalize c.2.1 = x1 at *
          generalize c.2.2.1 = x2 at *
          generalize c.2.2.2 = x3 at *
          have hj0 : (0 : Int) ≤ (j : Int) := by omega
          have hj1 : (j : Int) < (L : Int) := by omega
          go_wp2_with (first
            | (go_at_call 18; (with_reducible refine (HAA.out _).mono ?_); rintro e w4 ⟨rfl, hB4, hb4, ho4⟩; have HB4 : Hid (Bld w1.heap.size w1.heap.size (TA (j + 1)) w4) := hB4; have HW4 : Hid (Below w1.heap.size w1 w4) := (hb.out.alloc hb.out.size _).trans hb4; clear hB4 hb4 ho4))
          go_roundw
          case rel => exact ⟨j + 1, by omega, by go_num, HB4, HW4⟩
          case measure => simp [intOf]; omega
        · have hnl : ¬ (j : Int) < (L : Int) := by omega
          obtain rfl : j = L := by omega
          go_wp2
          go_roundw
          case rel => exact ⟨k + 1, by omega, by go_num, by rw [HTE.out]; exact hbd, hb⟩
          case measure => simp [intOf]; omega
    · have hnl : ¬ (k : Int) < (n : Int) := by omega
      obtain rfl : k = n := by omega
      go_wp2_with (first
        | (go_at_call 19; (with_reducible refine (string_any _ _ _ _ hbd.out (HNE.out _)).mono ?_); rintro e w5 ⟨rfl, hb5⟩; have HW5 : Hid (Below w.heap.size w w5) := HB1.out.trans ((hb.out.trans hb5).mono HB1.out.size); clear hb5))
      exact bodyPost_ret (v := .tuple #[.string (textS (textTk z l k)), .int .i64 0]) (by simp [results, Tryd.results7, go_sem]) rfl ⟨by rw [HTN.out], HW5.out⟩
theorem showP_any (v : Value) (m : Mc) (w : World) (h : Mach w v m) (hok : okM m) (r : Int) (hr : faultM m = r) (htab : Tab w) :
    Calls Tryd.prog 7 #[v] w fun e w' => e = .returned (.tuple #[.string (textS (shownT m r)), .int .i64 r]) ∧ Below w.heap.size w w' := by
  by_cases h0 : r = 0
  · subst h0
    obtain ⟨z, l⟩ := m
    unfold shownT
    rw [if_pos rfl]
    obtain ⟨vs, rfl, hS⟩ := h
    exact showP_ok z l vs w ⟨vs, rfl, hS⟩ hok hr htab
  · exact showP_bad v m w h hok r hr h0
end Go.Proofs.YtbbjpdadickilaaDoor.Wt
