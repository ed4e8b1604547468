/- The program: a machine as a text (where the table of powers of ten that the standard library reads is as its text lays it). The reference: a machine is read from its text, whatever text. The program: a machine is read from its text, whatever text (where the table of powers of ten and the two errors that the standard library reads are as their text lays them). -/
import Derived.Test.YthaefajpdncoeaaDoorJ8c
import Derived.Test.YthaefajpdncoeaaDoorJ8d
import Derived.Test.YthaefajpdncoeaaDoorJ8e
import Derived.Test.YthaefajpdncoeaaDoorPt
import Derived.Test.YthaefajpdncoeaaDoorJ8f
namespace Go.Proofs.YthaefajpdncoeaaDoor.Pl
theorem right_arcs {z : Int} {l : List St} (hr : faultM (z, l) = 0) {j : Nat} (hj : j < l.length) : (el l j).2.length ≤ 400 := by
  have h1 := arcN_take hj
  have h2 : arcN (l.take (j + 1)) ≤ arcN l := by
    conv => rhs; rw [← List.take_append_drop (j + 1) l, arcN_append]
    omega
  have h3 := (right_size hr).2
  omega
end Go.Proofs.YthaefajpdncoeaaDoor.Pl
namespace Go.Proofs.YthaefajpdncoeaaDoor.Wt
open Go.ChangeShapes Go.WideShapes Go.ChangeAt Go.RowKit
open Go.Proofs.YthaefajpdncoeaaDoor.Pl
set_option linter.unusedVariables false
set_option linter.unusedSimpArgs false
set_option maxRecDepth 100000 in
theorem showP_bad (v : Value) (m : Mc) (w : World) (h : Mach w v m) (hok : okM m) (r : Int) (hr : faultM m = r) (h0 : r ≠ 0) :
    Calls Tryd.prog 8 #[v] w fun e w' => e = .returned (.tuple #[.string (textS (shownT m r)), .int .i64 r]) ∧ Below w.heap.size w w' := by
  obtain ⟨z, l⟩ := m
  have HM : Hid (Mach w v (z, l)) := h
  have HK : Hid (okM (z, l)) := hok
  have HR : Hid (faultM (z, l) = r) := hr
  have HT : Hid (textS (shownT (z, l) r) = ⟨#[]⟩) := by show _ = _; unfold shownT; rw [if_neg h0]; rfl
  have h0' : (r != 0) = true := bne_iff_ne.2 h0
  obtain ⟨vs, rfl, hS⟩ := h
  obtain ⟨a, cap, rfl⟩ := hS.sl
  clear hS hok hr
  generalize textS (shownT (z, l) r) = T at *
  go_enter Tryd.func8, Tryd.ntmps8
  go_wp2_with (first
    | (go_at_call 13; (with_reducible refine (coreCheck_any _ (z, l) _ (HM.out.later (B := w.heap.size) (by go_grown) (Nat.le_refl _)) HK.out r HR.out).mono ?_); rintro e w1 ⟨rfl, hb⟩; obtain ⟨s1, b1, hb1⟩ := boxed hb (by simp); have HB1 : Hid (Below w.heap.size w w1) := hb1; clear b1 hb1 hb))
  exact bodyPost_ret (v := .tuple #[.string ⟨#[]⟩, .int .i64 r]) (by simp [results, Tryd.results8, go_sem]) rfl ⟨by rw [HT.out], HB1.out⟩
theorem headT_ne (z : Int) : headT z ≠ [] := by unfold headT; simp
set_option maxRecDepth 100000 in
set_option maxHeartbeats 3200000 in
theorem showP_ok (z : Int) (l : List St) (vs : Value) (w : World) (h : Mach w (.agg #[.int .i64 z, vs]) (z, l)) (hok : okM (z, l)) (hr : faultM (z, l) = 0) (htab : Tab w) :
    Calls Tryd.prog 8 #[.agg #[.int .i64 z, vs]] w fun e w' => e = .returned (.tuple #[.string (textS (textM (z, l))), .int .i64 0]) ∧ Below w.heap.size w w' := by
  have HM : Hid (Mach w (.agg #[.int .i64 z, vs]) (z, l)) := h
  have HK : Hid (okM (z, l)) := hok
  have HR : Hid (faultM (z, l) = 0) := hr
  have hz := (faultM_zero hr).2
  simp only [rangeB, Bool.and_eq_true, inB, decide_eq_true_eq] at hz
  have hz1 : -1 ≤ z := hz.1.1
  have h60 := (right_size hr).1
  have hz2 : z ≤ 60 := by omega
  obtain ⟨vs', hvs, hS⟩ := h
  simp only [Value.agg.injEq, Array.mk.injEq, List.cons.injEq, and_true, true_and] at hvs
  subst hvs
  obtain ⟨a, cap, rfl, hc⟩ := hS.get
  have HC : Hid (∀ j, j < l.length → ∃ b off va, a = some ⟨b, off, none⟩ ∧ b < w.heap.size ∧ w.cell? ⟨b, off + j * 2, none⟩ = some (.int .i64 (el l j).1) ∧ w.cell? ⟨b, off + j * 2 + 1, none⟩ = some va ∧ Arcs w va (el l j).2) := hc
  have HST : Hid (∀ j, j < l.length → finB (el l j).1 = true ∧ (el l j).2.all (arcB l.length) = true ∧ (el l j).2.length ≤ 400) := fun j hj => ⟨(right_st hr hj).1, (right_st hr hj).2, right_arcs hr hj⟩
  have hts := textM_short hr
  have HTA : Hid (∀ k j, k < l.length → (textTa z l k j).length ≤ 20000) := fun k j hk => Nat.le_trans (textTa_le hk) hts
  have HTK : Hid (∀ k, k < l.length → (textTk z l k).length ≤ 20000) := fun k hk => Nat.le_trans (textTk_le hk) hts
  have HTN : Hid (textTk z l l.length = textM (z, l)) := textTk_all z l
  have HNE : Hid (∀ k, textTk z l k ≠ []) := fun k e => headT_ne z (List.append_eq_nil_iff.1 e).1
  have HTS : Hid (∀ k, k < l.length → textTk z l (k + 1) = textTa z l k (el l k).2.length) := fun k hk => textTk_succ hk
  have HZ0 : Hid ([] ++ headT z = textTk z l 0) := by show _ = _; simp [textTk]
  have HTB : Hid (Tab w) := htab
  clear hS hc hr hz hok hts htab
  generalize hn : l.length = n at *
  have HN : Hid (l.length = n) := hn
  clear hn
  generalize textM (z, l) = TM at *
  go_enter Tryd.func8, Tryd.ntmps8
  go_wp2_with (first
    | (go_at_call 13; (with_reducible refine (coreCheck_any _ (z, l) _ (HM.out.later (B := w.heap.size) (by go_grown) (Nat.le_refl _)) HK.out 0 HR.out).mono ?_); rintro e w1 ⟨rfl, hb⟩; obtain ⟨s1, b1, hb1⟩ := boxed hb (by simp); have HB1 : Hid (Below w.heap.size w w1) := hb1; have K1 : Hid (Blk w1 w.heap.size #[.int .i64 z, .slice a n cap] 24) := b1; have c0 := fun o => (b1.alloc o).cell 0 (v := .int .i64 z) rfl; have HB0 : Hid (Bld w1.heap.size w1.heap.size [] (w1.alloc (.cells #[.pointer none, .slice none 0 0] 43))) := Bld.made w1; have HT1 : Hid (∀ W, Below w1.heap.size w1 W → Tab W) := (fun W hW => (HTB.out.later hb1).later hW); have HA0 : Hid (∀ o, Below w1.heap.size w1 (w1.alloc o)) := (fun o => (Below.refl _ _).alloc (Nat.le_refl _) o); have HZ1 : Hid (w1.heap.size ≤ (w1.alloc (.cells #[.pointer none, .slice none 0 0] 43)).heap.size) := (by show _ ≤ _; simp); clear b1 hb1 hb)
    | (go_at_call 15; (with_reducible refine (start_any w1.heap.size w1.heap.size [] z _ HB0.out (HT1.out _ (HA0.out _)) hz1 hz2 (Nat.zero_le _) HZ1.out (textTk z l 0) HZ0.out).mono ?_); rintro e w2 ⟨rfl, hB2, hb2, ho2⟩; have HB2 : Hid (Bld w1.heap.size w1.heap.size (textTk z l 0) w2) := hB2; have HW2 : Hid (Below w1.heap.size w1 w2) := (HA0.out _).trans hb2; have c1 := (K1.out.below HW2.out K1.out.lt).cell 1 (v := .slice a n cap) rfl; clear hB2 hb2 ho2))
  go_loopw [21] (fun i wr => ∃ (k : Nat), k ≤ n ∧ i = .int .i64 k ∧ Hid (Bld w1.heap.size w1.heap.size (textTk z l k) wr) ∧ Hid (Below w1.heap.size w1 wr)) (fun i _ => n - (intOf i).toNat)
  case atStart => exact ⟨0, Nat.zero_le _, rfl, HB2, HW2⟩
  case round =>
    clear HZ0 HB0 HA0 HZ1 c0 HB2 HW2 c1
    obtain ⟨k, hk, rfl, hbd, hb⟩ := hrel
    by_cases hkn : k < n
    · obtain ⟨b, off, va, rfl, hbl, g0, g1, gA⟩ := HC.out k hkn
      obtain ⟨a2, cap2, hva, hga⟩ := gA.get
      subst hva
      have HBL : Hid (∀ b, b < w.heap.size → b < w1.heap.size) := fun b h => Nat.lt_of_lt_of_le h HB1.out.size
      have g0 := ((hb.out.cell (p := ⟨b, off + k * 2, none⟩) (HBL.out b hbl)).trans (HB1.out.cell (p := ⟨b, off + k * 2, none⟩) hbl)).trans g0
      have g1 := ((hb.out.cell (p := ⟨b, off + k * 2 + 1, none⟩) (HBL.out b hbl)).trans (HB1.out.cell (p := ⟨b, off + k * 2 + 1, none⟩) hbl)).trans g1
      have HGA : Hid (∀ j, j < (el l k).2.length → ∃ b off, a2 = some ⟨b, off, none⟩ ∧ b < w.heap.size ∧ w.cell? ⟨b, off + j * 4, none⟩ = some (.int .i64 (el (el l k).2 j).1) ∧ w.cell? ⟨b, off + j * 4 + 1, none⟩ = some (.int .i64 (el (el l k).2 j).2.1) ∧ w.cell? ⟨b, off + j * 4 + 2, none⟩ = some (.int .i64 (el (el l k).2 j).2.2.1) ∧ w.cell? ⟨b, off + j * 4 + 3, none⟩ = some (.int .i64 (el (el l k).2 j).2.2.2)) := hga
      obtain ⟨hfin, harc, hL4⟩ := HST.out k hkn
      have HAR : Hid ((el l k).2.all (arcB n) = true) := harc
      have HSA : Hid (∀ o, Calls Tryd.prog 16 #[.pointer (some ⟨w1.heap.size, 0, none⟩), .int .i64 (el l k).1] (wr.alloc o) fun e w' => e = .returned (.tuple #[]) ∧ (Bld w1.heap.size w1.heap.size (textTa z l k 0) w' ∧ Below w1.heap.size (wr.alloc o) w' ∧ Oth (wr.alloc o) w')) := fun o =>
        state_any w1.heap.size w1.heap.size (textTk z l k) (el l k).1 _ (hbd.out.later ((Below.refl _ _).alloc (Nat.le_refl _) o)) (HT1.out _ (hb.out.alloc hb.out.size o)) hfin (by have := HTK.out k hkn; omega) (by simp; exact Nat.le_succ_of_le hb.out.size) _ (textTa_zero z l k).symm
      have HTJ : Hid (∀ j, j < (el l k).2.length → textTa z l k (j + 1) = textTa z l k j ++ arcT (el (el l k).2 j)) := fun j hj => textTa_succ hj
      have HTE : Hid (textTk z l (k + 1) = textTa z l k (el l k).2.length) := HTS.out k hkn
      have HTC : Hid (∀ j, (textTa z l k j).length ≤ 20000) := fun j => HTA.out k j hkn
      clear gA hga harc hfin
      generalize (el l k).1 = fin at *
      generalize (el l k).2 = ar at *
      generalize textTa z l k = TA at *
      generalize hL : ar.length = L at *
      have HL : Hid (ar.length = L) := hL
      clear hL
      have hk0 : (0 : Int) ≤ (k : Int) := by omega
      have hk1 : (k : Int) < (n : Int) := by omega
      go_wp2_with (first
        | (go_at_call 16; (with_reducible refine (HSA.out _).mono ?_); rintro e w3 ⟨rfl, hB3, hb3, ho3⟩; have HB3 : Hid (Bld w1.heap.size w1.heap.size (TA 0) w3) := hB3; have HW3 : Hid (Below w1.heap.size w1 w3) := (hb.out.alloc hb.out.size _).trans hb3; have c3 := Blk.cell (t := 37) (ho3 wr.heap.size _ _ _ (Blk.made wr #[.int .i64 fin, .slice a2 L cap2] 37) (by decide) (by decide)) 1 (v := .slice a2 L cap2) rfl; clear hB3 hb3 ho3))
      go_loopw [31] (fun i wr => ∃ (j : Nat), j ≤ L ∧ i = .int .i64 j ∧ Hid (Bld w1.heap.size w1.heap.size (TA j) wr) ∧ Hid (Below w1.heap.size w1 wr)) (fun i _ => L - (intOf i).toNat)
      case atStart => exact ⟨0, Nat.zero_le _, rfl, HB3, HW3⟩
      case round =>
        clear HSA HB3 HW3 c3 g0 g1 hbd hb
        obtain ⟨j, hj, rfl, hbd, hb⟩ := hrel
        by_cases hjL : j < L
        · obtain ⟨b3, off3, rfl, hb3l, e0, e1, e2, e3⟩ := HGA.out j hjL
          have hcar := List.all_eq_true.1 HAR.out (el ar j) (el_mem (by rw [HL.out]; exact hjL))
          have HJ := HTJ.out j hjL
          have hjs := HTC.out j
          have HAA : Hid (∀ o, Calls Tryd.prog 17 #[.pointer (some ⟨w1.heap.size, 0, none⟩), .agg #[.int .i64 (el ar j).1, .int .i64 (el ar j).2.1, .int .i64 (el ar j).2.2.1, .int .i64 (el ar j).2.2.2]] (wr.alloc o) fun e w' => e = .returned (.tuple #[]) ∧ (Bld w1.heap.size w1.heap.size (TA (j + 1)) w' ∧ Below w1.heap.size (wr.alloc o) w' ∧ Oth (wr.alloc o) w')) := fun o =>
            arc_any w1.heap.size w1.heap.size (TA j) n (el ar j) _ (hbd.out.later ((Below.refl _ _).alloc (Nat.le_refl _) o)) (HT1.out _ (hb.out.alloc hb.out.size o)) h60 hcar (by omega) (by simp; exact Nat.le_succ_of_le hb.out.size) _ HJ.symm
          have e0 := ((hb.out.cell (p := ⟨b3, off3 + j * 4, none⟩) (HBL.out b3 hb3l)).trans (HB1.out.cell (p := ⟨b3, off3 + j * 4, none⟩) hb3l)).trans e0
          have e1 := ((hb.out.cell (p := ⟨b3, off3 + j * 4 + 1, none⟩) (HBL.out b3 hb3l)).trans (HB1.out.cell (p := ⟨b3, off3 + j * 4 + 1, none⟩) hb3l)).trans e1
          have e2 := ((hb.out.cell (p := ⟨b3, off3 + j * 4 + 2, none⟩) (HBL.out b3 hb3l)).trans (HB1.out.cell (p := ⟨b3, off3 + j * 4 + 2, none⟩) hb3l)).trans e2
          have e3 := ((hb.out.cell (p := ⟨b3, off3 + j * 4 + 3, none⟩) (HBL.out b3 hb3l)).trans (HB1.out.cell (p := ⟨b3, off3 + j * 4 + 3, none⟩) hb3l)).trans e3
          clear HJ hcar
          generalize el ar j = c at *
          generalize c.1 = x0 at *
          generalize c.2.1 = x1 at *
          generalize c.2.2.1 = x2 at *
          generalize c.2.2.2 = x3 at *
          have hj0 : (0 : Int) ≤ (j : Int) := by omega
          have hj1 : (j : Int) < (L : Int) := by omega
          go_wp2_with (first
            | (go_at_call 17; (with_reducible refine (HAA.out _).mono ?_); rintro e w4 ⟨rfl, hB4, hb4, ho4⟩; have HB4 : Hid (Bld w1.heap.size w1.heap.size (TA (j + 1)) w4) := hB4; have HW4 : Hid (Below w1.heap.size w1 w4) := (hb.out.alloc hb.out.size _).trans hb4; clear hB4 hb4 ho4))
          go_roundw
          case rel => exact ⟨j + 1, by omega, by go_num, HB4, HW4⟩
          case measure => simp [intOf]; omega
        · have hnl : ¬ (j : Int) < (L : Int) := by omega
          obtain rfl : j = L := by omega
          go_wp2
          go_roundw
          case rel => exact ⟨k + 1, by omega, by go_num, by rw [HTE.out]; exact hbd, hb⟩
          case measure => simp [intOf]; omega
    · have hnl : ¬ (k : Int) < (n : Int) := by omega
      obtain rfl : k = n := by omega
      go_wp2_with (first
        | (go_at_call 18; (with_reducible refine (string_any _ _ _ _ hbd.out (HNE.out _)).mono ?_); rintro e w5 ⟨rfl, hb5⟩; have HW5 : Hid (Below w.heap.size w w5) := HB1.out.trans ((hb.out.trans hb5).mono HB1.out.size); clear hb5))
      exact bodyPost_ret (v := .tuple #[.string (textS (textTk z l k)), .int .i64 0]) (by simp [results, Tryd.results8, go_sem]) rfl ⟨by rw [HTN.out], HW5.out⟩
theorem showP_any (v : Value) (m : Mc) (w : World) (h : Mach w v m) (hok : okM m) (r : Int) (hr : faultM m = r) (htab : Tab w) :
    Calls Tryd.prog 8 #[v] w fun e w' => e = .returned (.tuple #[.string (textS (shownT m r)), .int .i64 r]) ∧ Below w.heap.size w w' := by
  by_cases h0 : r = 0
  · subst h0
    obtain ⟨z, l⟩ := m
    unfold shownT
    rw [if_pos rfl]
    obtain ⟨vs, rfl, hS⟩ := h
    exact showP_ok z l vs w ⟨vs, rfl, hS⟩ hok hr htab
  · exact showP_bad v m w h hok r hr h0
end Go.Proofs.YthaefajpdncoeaaDoor.Wt
namespace Go.Proofs.YthaefajpdncoeaaDoor.Pl
theorem okRight8 {m : Mc} (h : faultM m = 0) : okM m := by
  obtain ⟨z, l⟩ := m
  have h1 := right_size h
  refine ⟨by simp only; omega, fun j hj => ?_⟩
  have h2 := arcN_take (l := l) (k := j) hj
  have h3 : arcN (l.take (j + 1)) ≤ arcN l := by
    conv => rhs; rw [← List.take_append_drop (j + 1) l, arcN_append]
    omega
  simp only
  omega
theorem ReadAns.ok {s : List UInt8} {m : Mc} {ec : Int} (h : ReadAns s m ec) : okM m := by
  have hz : okM (0, []) := ⟨by simp, fun j hj => absurd hj (by simp)⟩
  unfold ReadAns at h
  split at h
  · rw [h.2]; exact hz
  · cases hm : readM s with
    | none => rw [hm] at h; rw [h.2]; exact hz
    | some m' => rw [hm] at h; rw [h.2]; exact okRight8 (text_readM hm).1
theorem ReadAns.err {s : List UInt8} {m : Mc} {ec : Int} (h : ReadAns s m ec) (h0 : ¬ ec = 0) : m = (0, []) := by
  unfold ReadAns at h
  split at h
  · exact h.2
  · cases hm : readM s with
    | none => rw [hm] at h; exact h.2
    | some m' => rw [hm] at h; exact absurd h.1 h0
theorem ReadAns.fine {s : List UInt8} {m : Mc} (h : ReadAns s m 0) : faultM m = 0 ∧ textM m = s := by
  unfold ReadAns at h
  split at h
  · have := h.1; omega
  · cases hm : readM s with
    | none => rw [hm] at h; have := h.1; omega
    | some m' => rw [hm] at h; rw [h.2]; exact text_readM hm
theorem ReadAns.exists (s : List UInt8) : ∃ m ec, ReadAns s m ec := by
  by_cases h : 20000 < s.length
  · exact ⟨_, _, ReadAns.long h⟩
  · cases hm : readM s with
    | none => exact ⟨_, _, ReadAns.none h hm⟩
    | some m => exact ⟨_, _, ReadAns.some h hm⟩
theorem textS_back (s : ByteArray) : textS s.data.toList = s := by apply bytes_inj2; rfl
/-- What is shown is read. -/
theorem ReadAns.back {m r : Mc} {ec : Int} (hf : faultM m = 0) (hl : (textM m).length ≤ 20000) (h : ReadAns (textM m) r ec) : ec = 0 ∧ r = m := by
  unfold ReadAns at h
  rw [if_neg (by omega), readM_text hf] at h
  exact h
end Go.Proofs.YthaefajpdncoeaaDoor.Pl
namespace Go.Proofs.YthaefajpdncoeaaDoor.Wt
open Go.Proofs.YthaefajpdncoeaaDoor.Pl
theorem readR_any (s : ByteArray) (w : World) : Calls Tryd.prog 12 #[.string s] w fun e w' => RefRead s w e w' := by
  by_cases h : 20000 < s.size
  · exact readR_long s w h
  · exact readR_short s w h
end Go.Proofs.YthaefajpdncoeaaDoor.Wt
namespace Go.Proofs.YthaefajpdncoeaaDoor.Wt
open Go.ChangeShapes Go.WideShapes Go.ChangeAt Go.RowKit Go.Shelf
open Go.Proofs.YthaefajpdncoeaaDoor.Pl
set_option linter.unusedVariables false
set_option linter.unusedSimpArgs false
attribute [local go_sem] Oper.semAt_some
theorem blk_own {W W' : World} {row : Option Nat} {b : Nat} {cs : Array Value} {t : TypeId} (h : Blk W b cs t) (hg : W.grownBy W' row) (hr : ∀ r, row = some r → ∃ o : Obj, W.heap[r]? = some o ∧ o.isCells = false) : Blk W' b cs t :=
  (grownBy_keeps_cells hg hr h rfl).trans h
theorem row_own {W W' : World} {row : Option Nat} {B : Nat} {e : TypeId} {sz : Nat} {v : Value} {n : Nat} {xs : List Value} (h : W.ownsRow B e sz v n xs) (hg : W.grownBy W' row) (hr : ∀ r, row = some r → ∃ o : Obj, W.heap[r]? = some o ∧ o.isCells = false) : W'.ownsRow B e sz v n xs := by
  refine h.kept hg ?_
  rcases h.2 with ⟨hv, _⟩ | ⟨g, cap, cur, hv, _, hgb, _⟩
  · exact .inl (by rw [hv]; rfl)
  · refine .inr ?_
    rw [hv]
    intro e2
    obtain ⟨o, ho, hc⟩ := hr g e2.symm
    rw [hgb] at ho
    cases ho
    cases hc
theorem apt_own {W W' : World} {row : Option Nat} {B : Nat} {v : Value} {l : List St} (h : OwnApt W B v l) (hg : W.grownBy W' row) (hr : ∀ r, row = some r → ∃ o : Obj, W.heap[r]? = some o ∧ o.isCells = false) : OwnApt W' B v l := by
  obtain ⟨vs, h1, h2, h3, h4⟩ := h
  exact ⟨vs, row_own h1 hg hr, h2, fun j hj => ⟨(h3 j hj).1, row_own (h3 j hj).2 hg hr⟩, h4⟩
theorem mac_own {W W' : World} {row : Option Nat} {base M : Nat} {z : Int} {l : List St} (h : MacAt base M z l W) (hg : W.grownBy W' row) (hr : ∀ r, row = some r → ∃ o : Obj, W.heap[r]? = some o ∧ o.isCells = false) : MacAt base M z l W' := by
  obtain ⟨v, h1, h2⟩ := h
  exact ⟨v, blk_own h1 hg hr, apt_own h2 hg hr⟩
/-- What the call's own variables hold between two rounds. -/
def RdI (w : World) (pre : List Wl) (W : World) : Prop :=
  ((∃ m : Mc, readQ (pre.map wlP) = some m ∧ MacAt (w.heap.size + 1 + 1 + 1 + 1) (w.heap.size + 1 + 1) m.1 m.2 W) ∧ Blk W w.heap.size #[.int .i64 0, .slice none 0 0] 24 ∧ Blk W (w.heap.size + 1) #[.int .i64 0] 26 ∧ w.heap.size + 1 + 1 + 1 + 1 ≤ W.heap.size) ∧ Below w.heap.size w W
def RdX (w : World) (pre : List Wl) (W : World) : Prop :=
  (readQ (pre.map wlP) = none ∧ Blk W w.heap.size #[.int .i64 0, .slice none 0 0] 24 ∧ Blk W (w.heap.size + 1) #[.int .i64 3] 26) ∧ Below w.heap.size w W
theorem rdI_own (w : World) (B : Nat) (hB : w.heap.size ≤ B) : OwnFrom B (RdI w) :=
  OwnFrom.and (Own.from (fun s X Y row hs hg hr => by
    obtain ⟨⟨m, h1, h2⟩, h3, h4, h5⟩ := hs
    exact ⟨⟨m, h1, mac_own h2 hg hr⟩, blk_own h3 hg hr, blk_own h4 hg hr, Nat.le_trans h5 hg.size⟩) _) (ownFrom_below (Nat.le_refl _) hB)
theorem rdX_own (w : World) (B : Nat) (hB : w.heap.size ≤ B) : OwnFrom B (RdX w) :=
  OwnFrom.and (Own.from (fun s X Y row hs hg hr => by
    obtain ⟨h1, h3, h4⟩ := hs
    exact ⟨h1, blk_own h3 hg hr, blk_own h4 hg hr⟩) _) (ownFrom_below (Nat.le_refl _) hB)
abbrev rdW (w : World) (s : ByteArray) : World := (((w.alloc (.cells #[.int .i64 0, .slice none 0 0] 24)).alloc (.cells #[.int .i64 0] 26)).alloc (.cells #[.int .i64 0, .slice none 0 0] 24)).alloc (.cells #[.string s] 9)
theorem rd_blks (w : World) (s : ByteArray) : Blk (rdW w s) w.heap.size #[.int .i64 0, .slice none 0 0] 24 ∧ Blk (rdW w s) (w.heap.size + 1) #[.int .i64 0] 26 ∧ Blk (rdW w s) (w.heap.size + 1 + 1) #[.int .i64 0, .slice none 0 0] 24 ∧ Blk (rdW w s) (w.heap.size + 1 + 1 + 1) #[.string s] 9 := by
  have b0 := (((Blk.made w #[.int .i64 0, .slice none 0 0] 24).alloc (.cells #[.int .i64 0] 26)).alloc (.cells #[.int .i64 0, .slice none 0 0] 24)).alloc (.cells #[.string s] 9)
  have b1 := ((Blk.made (w.alloc (.cells #[.int .i64 0, .slice none 0 0] 24)) #[.int .i64 0] 26).alloc (.cells #[.int .i64 0, .slice none 0 0] 24)).alloc (.cells #[.string s] 9)
  have b2 := (Blk.made ((w.alloc (.cells #[.int .i64 0, .slice none 0 0] 24)).alloc (.cells #[.int .i64 0] 26)) #[.int .i64 0, .slice none 0 0] 24).alloc (.cells #[.string s] 9)
  have b3 := Blk.made (((w.alloc (.cells #[.int .i64 0, .slice none 0 0] 24)).alloc (.cells #[.int .i64 0] 26)).alloc (.cells #[.int .i64 0, .slice none 0 0] 24)) #[.string s] 9
  simp only [World.size_alloc] at b1 b2 b3
  exact ⟨b0, b1, b2, b3⟩
theorem rd_start (w : World) (s : ByteArray) : RdI w [] (rdW w s) := by
  obtain ⟨b0, b1, b2, _⟩ := rd_blks w s
  refine ⟨⟨⟨(0, []), rfl, _, b2, OwnApt.nil _ _⟩, b0, b1, by simp⟩, ?_⟩
  exact ((((Below.refl _ w).alloc (Nat.le_refl _) _).alloc (by simp) _).alloc (by simp; omega) _).alloc (by simp; omega) _
theorem few_okM {n : Nat} {m : Mc} (h : Few n m.2) (hn : n ≤ 30000) : okM m := by
  refine ⟨by have := h.1; omega, fun j hj => ?_⟩
  have := h.2 (el m.2 j) (el_mem hj)
  omega
theorem ne_bytes {a b : ByteArray} (h : ¬ a = b) : (a.toList != b.toList) = true := by
  refine bne_iff_ne.2 (fun e => h ?_)
  rw [ByteArray.toList_eq, ByteArray.toList_eq] at e
  exact bytes_inj2 e
theorem splitB_small (k : Nat) : ∀ (n : Nat) (s : ByteArray), s.size ≤ n → ∀ x ∈ Lib.splitB ⟨#[32]⟩ 0 k s, x.size ≤ n := by
  induction k with
  | zero => intro n s hs x hx; simp [Lib.splitB] at hx; subst hx; exact hs
  | succ k ih =>
    intro n s hs x hx
    unfold Lib.splitB at hx
    split at hx
    · simp at hx; subst hx; exact hs
    · rcases List.mem_cons.1 hx with e | e
      · subst e; rw [ByteArray.size_extract]; omega
      · exact ih n _ (by rw [ByteArray.size_extract]; omega) x e
theorem wl_facts (x : Wl) : x.xs ≠ [] ∧ x.xs.length ≤ 30000 ∧ ∀ y ∈ x.xs, y.size ≤ 20000 := by
  have h1 : x.xs.length = Lib.countB x.s ⟨#[32]⟩ + 1 := by rw [← x.hx]; exact Lib.splitB_all ⟨#[32]⟩ (Nat.le_refl 1) 0 _ x.s rfl
  have h2 := Lib.countB_le ⟨#[32]⟩ (Nat.le_refl 1) x.s.size x.s (Nat.le_refl _)
  have h3 := x.hs
  refine ⟨fun e => by rw [e] at h1; simp at h1, by omega, ?_⟩
  rw [← x.hx]
  exact splitB_small _ _ _ x.hs
theorem keeps_of_kept {B M : Nat} {W W' : World} (h : Kept (some M) W W') (hM : M < B) : KeepsFrom B W W' :=
  ⟨h.1, fun k o hk ho hc => h.2 k o ho (by simp; omega) (fun cs T fr e => by subst e; cases hc)⟩
theorem keeps_sets {B : Nat} {W W' : World} (h : KeepsFrom B W W') (a b c : Addr) (x y u : Value) : KeepsFrom B W (((W'.setCell a x).setCell b y).setCell c u) := by
  have ko := ((KeepsOthers.setCell W' a x).trans (KeepsOthers.setCell _ b y)).trans (KeepsOthers.setCell _ c u)
  exact ⟨Nat.le_trans h.size ko.size, fun k o h1 h2 h3 => ko.same k o (h.same k o h1 h2 h3) h3⟩
/-- What is written at the end, and that the block of the rounds' deferred calls is shut. -/
theorem end_blks {w w1 : World} {D : Nat} {z ec : Int} {v : Value} {x y : Int} {u : Value} (k0 : Blk w1 w.heap.size #[.int .i64 x, u] 24) (k1 : Blk w1 (w.heap.size + 1) #[.int .i64 y] 26) (hK : w1.heap[D]? = some (.deferred (some []))) :
    let V := ((w1.setCell ⟨w.heap.size, 0, none⟩ (.int .i64 z)).setCell ⟨w.heap.size, 1, none⟩ v).setCell ⟨w.heap.size + 1, 0, none⟩ (.int .i64 ec)
    V.heap[D]? = some (.deferred (some [])) ∧ (V.putObj D (.deferred none)).cell? ⟨w.heap.size, 0, none⟩ = some (.int .i64 z) ∧ (V.putObj D (.deferred none)).cell? ⟨w.heap.size, 1, none⟩ = some v ∧ (V.putObj D (.deferred none)).cell? ⟨w.heap.size + 1, 0, none⟩ = some (.int .i64 ec) := by
  intro V
  have hV : V.heap[D]? = some (.deferred (some [])) := (((KeepsOthers.setCell w1 ⟨w.heap.size, 0, none⟩ (.int .i64 z)).trans (KeepsOthers.setCell _ ⟨w.heap.size, 1, none⟩ v)).trans (KeepsOthers.setCell _ ⟨w.heap.size + 1, 0, none⟩ (.int .i64 ec))).same D _ hK rfl
  have k0' : Blk V w.heap.size #[.int .i64 z, v] 24 := ((k0.set 0 (.int .i64 z)).set 1 v).setO ⟨w.heap.size + 1, 0, none⟩ (.int .i64 ec) (by simp)
  have k1' : Blk V (w.heap.size + 1) #[.int .i64 ec] 26 := ((k1.setO ⟨w.heap.size, 0, none⟩ (.int .i64 z) (by simp)).setO ⟨w.heap.size, 1, none⟩ v (by simp)).set 0 (.int .i64 ec)
  have hr : ∀ r, some D = some r → ∃ o : Obj, V.heap[r]? = some o ∧ o.isCells = false := fun r e => by cases e; exact ⟨_, hV, rfl⟩
  have l0 := blk_own k0' (grownBy_putObj' V D (.deferred none)) hr
  have l1 := blk_own k1' (grownBy_putObj' V D (.deferred none)) hr
  exact ⟨hV, l0.cell 0 rfl, l0.cell 1 rfl, l1.cell 0 rfl⟩
set_option maxRecDepth 100000 in
set_option maxHeartbeats 4000000 in
theorem read_core (s : ByteArray) (w : World) (hs : s.size ≤ 20000) (ht : Tab w) (he : Errs w) :
    CallsIn Fence.wide 10 Tryd.prog 11 #[.string s] w fun e w' => RefRead s w e w' := by
  have hlen : ¬ (20000 : Int) < (s.size : Int) := by omega
  have hnot : ∀ (x : Bool) (w : World), (Op.unary .not (.bool x)).run Tryd.prog w = .ok (.bool (!x)) w := fun _ _ => rfl
  have hsl : s.data.toList.length = s.size := by simp
  have hNl := linesL_length s.data.toList
  have hshort : ¬ 20000 < s.data.toList.length := by omega
  have HNO : Hid (∀ ys : List Wl, ys.map wlL = linesL s.data.toList → ∀ m, readQ (ys.map wlP) = some m → ¬ (faultM m = 0 ∧ textM m = s.data.toList) → ReadAns s.data.toList (0, []) 3) := fun ys hy m hm hn =>
    ReadAns.none hshort (readM_none_of fun m' hm' h => by
      rw [wlP_lines, hy] at hm
      have : m' = m := Option.some.inj (hm'.symm.trans hm)
      subst this
      exact hn h)
  have HNP : Hid (∀ pre : List Wl, pre.map wlL <+: linesL s.data.toList → readQ (pre.map wlP) = none → ReadAns s.data.toList (0, []) 3) := fun pre hy hm =>
    ReadAns.none hshort (readM_none_of fun m' hm' h => by
      obtain ⟨r, hr⟩ := hy
      rw [wlP_lines] at hm
      rw [← hr, List.map_append, readQ_none hm] at hm'
      cases hm')
  refine callsIn_of_wp_marks Tryd.func11 rfl trivial ?_ rfl
  simp only [Tryd.ntmps11, List.size_toArray, List.length_cons, List.length_nil, Nat.reduceAdd, Nat.reduceSub, Array.replicate_succ, Array.replicate_zero, List.push_toArray, List.append_toArray, List.nil_append, List.cons_append]
  gi_wp2_with (first | (refine ⟨trivial, ?_⟩; gi_at_call 23; refine (callsIn_wide.2 (lines_any _ _)).mono ?_; rintro e w' ⟨rfl, rfl⟩))
  have hcS : (rdW w s).cell? ⟨w.heap.size + 1 + 1 + 1, 0, none⟩ = some (.string s) := (rd_blks w s).2.2.2.cell 0 rfl
  refine wpIn_rangeFunc_laid rfl (by decide) (gf := 39) (lb := #[.pointer (some ⟨w.heap.size + 1 + 1 + 1, 0, none⟩)]) rfl trivial (enters_of Tryd.func39 (by kernel_rfl) rfl)
    (lines_laid (10 - 1) (w.heap.size + 1 + 1 + 1) w.heap.size s hs (rdW w s) (by simp) hcS) (by simp; omega) (Below.refl _ _) (fun _ => rfl)
    (RdI w) (RdX w) (rdI_own w _ (by simp; omega)) (rdX_own w _ (by simp; omega)) (lies_own _) (rd_start w s)
    (fun x => { tmps := #[.string s, undef, .pointer (some ⟨w.heap.size, 0, none⟩), .pointer (some ⟨w.heap.size + 1, 0, none⟩), .pointer (some ⟨w.heap.size + 1 + 1, 0, none⟩), .slice (some ⟨x.bk, 0, none⟩) x.xs.length x.xs.length, undef, undef, .string s, .int .i64 s.size, .bool false, undef, .string s, .func (.func 39) #[] #[.pointer (some ⟨w.heap.size + 1 + 1 + 1, 0, none⟩)], .slice (some ⟨x.bk, 0, none⟩) x.xs.length x.xs.length, undef, undef, undef, undef, undef, undef, undef, undef, undef, undef, undef, undef, undef, undef, undef, undef, undef, undef], defers := [] }) ?assign ?body ?done ?stop
  case assign =>
    intro l x W K hK
    gi_wp2
    exact hK
  case body =>
    rintro l pre x W ⟨⟨⟨m, hq, hm⟩, h0, h1, hsz⟩, hB⟩ hlies hlt
    have hfew := readQ_few hq
    rw [List.length_map] at hfew
    obtain ⟨f1, f2, f3⟩ := wl_facts x
    have hws := hB.size
    have hsn : readQ ((pre ++ [x]).map wlP) = addP m (x.xs.map (·.data.toList)) := by
      rw [List.map_append, List.map_cons, List.map_nil, readQ_snoc, hq]
      rfl
    have HAD : Hid (Calls Tryd.prog 24 #[.pointer (some ⟨w.heap.size + 1 + 1, 0, none⟩), .slice (some ⟨x.bk, 0, none⟩) x.xs.length x.xs.length] W fun e W' => AddAns (w.heap.size + 1 + 1 + 1 + 1) (w.heap.size + 1 + 1) m (x.xs.map (·.data.toList)) W e W') :=
      add_any _ _ x.bk m.1 m.2 x.xs W hm (by omega) hsz hlies f1 f2 f3 (he.later hB) (hfew.mono (by omega))
    cases hp : addP m (x.xs.map (·.data.toList)) with
    | none =>
      have HAN : Hid (Calls Tryd.prog 24 #[.pointer (some ⟨w.heap.size + 1 + 1, 0, none⟩), .slice (some ⟨x.bk, 0, none⟩) x.xs.length x.xs.length] W fun e W' => e = .returned (.bool false) ∧ Below (w.heap.size + 1 + 1) W W' ∧ Kept (some (w.heap.size + 1 + 1)) W W') := by
        refine HAD.out.mono ?_
        rintro e w' ⟨a1, a2, ⟨rfl, r, a3, _⟩ | ⟨rfl, _⟩⟩
        · rw [hp] at a3; cases a3
        · exact ⟨rfl, a1, a2⟩
      gi_wp2_with (first | (refine ⟨trivial, ?_⟩; gi_at_call 24; refine (CallsIn.inRound l (callsIn_wide.2 HAN.out)).mono ?_; rintro e w1 ⟨rfl, hb1, hk1⟩; have k0 := h0.below hb1 (by omega); have k1 := h1.below hb1 (by omega); have c0 := k0.cell 0 (v := .int .i64 0) rfl; have c00 := k0.cell 1 (v := .slice none 0 0) rfl; have c1 := k1.cell 0 (v := .int .i64 0) rfl; have g0 := k0.fz 0; have g00 := k0.fz 1; have g1 := k1.fz 0))
      have k0' := ((k0.set 0 (.int .i64 0)).set 1 (.slice none 0 0)).setO ⟨w.heap.size + 1, 0, none⟩ (.int .i64 3) (by simp)
      have k1' := ((k1.setO ⟨w.heap.size, 0, none⟩ (.int .i64 0) (by simp)).setO ⟨w.heap.size, 1, none⟩ (.slice none 0 0) (by simp)).set 0 (.int .i64 3)
      refine ⟨keeps_sets (keeps_of_kept hk1 (by simp)) _ _ _ _ _ _, ⟨hsn.trans hp, k0', k1'⟩, ?_⟩
      exact (((hB.trans (hb1.mono (by omega))).setCell (p := ⟨w.heap.size, 0, none⟩) (Nat.le_refl _) _).setCell (p := ⟨w.heap.size, 1, none⟩) (Nat.le_refl _) _).setCell (p := ⟨w.heap.size + 1, 0, none⟩) (by simp) _
    | some r =>
      have HAS : Hid (Calls Tryd.prog 24 #[.pointer (some ⟨w.heap.size + 1 + 1, 0, none⟩), .slice (some ⟨x.bk, 0, none⟩) x.xs.length x.xs.length] W fun e W' => e = .returned (.bool true) ∧ Below (w.heap.size + 1 + 1) W W' ∧ Kept (some (w.heap.size + 1 + 1)) W W' ∧ MacAt (w.heap.size + 1 + 1 + 1 + 1) (w.heap.size + 1 + 1) r.1 r.2 W') := by
        refine HAD.out.mono ?_
        rintro e w' ⟨a1, a2, ⟨rfl, r', a3, a4⟩ | ⟨rfl, a3⟩⟩
        · rw [hp] at a3; cases a3; exact ⟨rfl, a1, a2, a4⟩
        · rw [hp] at a3; cases a3
      gi_wp2_with (first | (refine ⟨trivial, ?_⟩; gi_at_call 24; refine (CallsIn.inRound l (callsIn_wide.2 HAS.out)).mono ?_; rintro e w1 ⟨rfl, hb1, hk1, hm1⟩))
      exact ⟨keeps_of_kept hk1 (by simp), hb1.mono (by omega), ⟨⟨r, hsn.trans hp, hm1⟩, h0.below hb1 (by omega), h1.below hb1 (by omega), Nat.le_trans hsz hb1.size⟩, hB.trans (hb1.mono (by omega))⟩
  case done =>
    rintro D ys W hD hys ⟨⟨⟨m, hq, hm⟩, h0, h1, hsz⟩, hB⟩ hK
    have hfew := readQ_few hq
    have hyl : (ys.map wlP).length ≤ 20000 := by rw [wlP_lines, hys, List.length_map]; omega
    have HOK : Hid (okM m) := few_okM hfew (by omega)
    have hws := hB.size
    obtain ⟨v, hmb, hown⟩ := hm
    have HM : Hid (Mach W (.agg #[.int .i64 m.1, v]) m) := ⟨v, rfl, hown.own.sts⟩
    have HT : Hid (Tab W) := ht.later hB
    have HMB : Hid (Blk W (w.heap.size + 1 + 1) #[.int .i64 m.1, v] 24) := hmb
    have HOW : Hid (OwnApt W (w.heap.size + 1 + 1 + 1 + 1) v m.2) := hown
    have c2 := hmb.cell 0 (v := .int .i64 m.1) rfl
    have c3 := hmb.cell 1 (v := v) rfl
    obtain ⟨av, capv, rfl⟩ := hown.sl
    clear hown hmb
    obtain ⟨T, hT⟩ : ∃ T, textS (shownT m (faultM m)) = T := ⟨_, rfl⟩
    obtain ⟨r, hr⟩ : ∃ r, faultM m = r := ⟨_, rfl⟩
    have HSH : Hid (Calls Tryd.prog 8 #[.agg #[.int .i64 m.1, .slice av m.2.length capv]] W fun e w' => e = .returned (.tuple #[.string T, .int .i64 r]) ∧ Below W.heap.size W w') := by
      have := showP_any _ m W HM.out HOK.out _ hr HT.out
      rw [← hr] at this
      rw [hT, hr] at this
      exact this
    by_cases hf : r = 0
    · subst hf
      have hTt : T = textS (textM m) := by rw [← hT, hr]; unfold shownT; rw [if_pos rfl]
      by_cases hqs : textM m = s.data.toList
      · have hTs : T = s := by rw [hTt, hqs]; exact textS_self s
        have HA : Hid (ReadAns s.data.toList m 0) := ReadAns.some hshort (readM_iff.2 ⟨hr, hqs⟩)
        rw [hTs] at HSH
        clear hT hTt hTs hqs hr
        gi_wp2_with (first
          | (refine ⟨trivial, ?_⟩; gi_at_call 8; refine (callsIn_wide.2 HSH.out).mono ?_; rintro e w1 ⟨rfl, hb1⟩; have k0 := h0.below hb1 h0.lt; have k1 := h1.below hb1 h1.lt; have k2 := HMB.out.below hb1 HMB.out.lt; have d0 := k0.cell 0 (v := .int .i64 0) rfl; have d00 := k0.cell 1 (v := .slice none 0 0) rfl; have d1 := k1.cell 0 (v := .int .i64 0) rfl; have d2 := k2.cell 0 (v := .int .i64 m.1) rfl; have d3 := k2.cell 1 (v := .slice av m.2.length capv) rfl; have f0 := k0.fz 0; have f00 := k0.fz 1; have f1 := k1.fz 0))
        have hDD : w.heap.size ≤ D := by simp at hD; omega
        obtain ⟨hKf, r0, r00, r1⟩ := end_blks (w := w) (z := m.1) (ec := 0) (v := .slice av m.2.length capv) k0 k1 ((hb1.block D (lt_of_block hK)).trans hK)
        refine ⟨by simp, .inl ⟨_, _, rfl, run_takeDeferred hKf, ?_⟩⟩
        have hof := apt_own ((((HOW.out.later hb1).setCell (a := ⟨w.heap.size, 0, none⟩) (by show w.heap.size < _; omega) (.int .i64 m.1)).setCell (a := ⟨w.heap.size, 1, none⟩) (by show w.heap.size < _; omega) (.slice av m.2.length capv)).setCell (a := ⟨w.heap.size + 1, 0, none⟩) (by show w.heap.size + 1 < _; omega) (.int .i64 0)) (grownBy_putObj' _ D (.deferred none)) (fun r e => by cases e; exact ⟨_, hKf, rfl⟩)
        refine ⟨.tuple #[.agg #[.int .i64 m.1, .slice av m.2.length capv], .int .i64 0], ?_, _, m, 0, rfl, ⟨_, rfl, hof.own.sts⟩, HA.out, ((((hB.trans (hb1.mono hws)).setCell (p := ⟨w.heap.size, 0, none⟩) (Nat.le_refl _) _).setCell (p := ⟨w.heap.size, 1, none⟩) (Nat.le_refl _) _).setCell (p := ⟨w.heap.size + 1, 0, none⟩) (by simp) _).trans (belowK_b (w := w) (Nat.le_refl _) _ D _ _ hDD hKf rfl rfl)⟩
        simp [results, Tryd.results11, go_sem, r0, r00, r1]
      · have e9 : (T.toList != s.toList) = true := ne_bytes (fun e => hqs (by rw [← e, hTt]; rfl))
        have e8 : (T.toList == s.toList) = false := by simpa [bne] using e9
        have HA : Hid (ReadAns s.data.toList (0, []) 3) := HNO.out ys hys m hq (fun h => hqs h.2)
        clear hT hTt hqs hr
        gi_wp2_with (first
          | (refine ⟨trivial, ?_⟩; gi_at_call 8; refine (callsIn_wide.2 HSH.out).mono ?_; rintro e w1 ⟨rfl, hb1⟩; have k0 := h0.below hb1 h0.lt; have k1 := h1.below hb1 h1.lt; have k2 := HMB.out.below hb1 HMB.out.lt; have d0 := k0.cell 0 (v := .int .i64 0) rfl; have d00 := k0.cell 1 (v := .slice none 0 0) rfl; have d1 := k1.cell 0 (v := .int .i64 0) rfl; have d2 := k2.cell 0 (v := .int .i64 m.1) rfl; have d3 := k2.cell 1 (v := .slice av m.2.length capv) rfl; have f0 := k0.fz 0; have f00 := k0.fz 1; have f1 := k1.fz 0))
        have hDD : w.heap.size ≤ D := by simp at hD; omega
        obtain ⟨hKf, r0, r00, r1⟩ := end_blks (w := w) (z := 0) (ec := 3) (v := .slice none 0 0) k0 k1 ((hb1.block D (lt_of_block hK)).trans hK)
        refine ⟨by simp, .inl ⟨_, _, rfl, run_takeDeferred hKf, ?_⟩⟩
        refine ⟨.tuple #[.agg #[.int .i64 0, .slice none 0 0], .int .i64 3], ?_, _, (0, []), 3, rfl, mach_zero _, HA.out, ((((hB.trans (hb1.mono hws)).setCell (p := ⟨w.heap.size, 0, none⟩) (Nat.le_refl _) _).setCell (p := ⟨w.heap.size, 1, none⟩) (Nat.le_refl _) _).setCell (p := ⟨w.heap.size + 1, 0, none⟩) (by simp) _).trans (belowK_b (w := w) (Nat.le_refl _) _ D _ _ hDD hKf rfl rfl)⟩
        simp [results, Tryd.results11, go_sem, r0, r00, r1]
    · have e9 : (r != 0) = true := bne_iff_ne.2 hf
      have HA : Hid (ReadAns s.data.toList (0, []) 3) := HNO.out ys hys m hq (fun h => hf (hr.symm.trans h.1))
      clear hT hr
      gi_wp2_with (first
        | (refine ⟨trivial, ?_⟩; gi_at_call 8; refine (callsIn_wide.2 HSH.out).mono ?_; rintro e w1 ⟨rfl, hb1⟩; have k0 := h0.below hb1 h0.lt; have k1 := h1.below hb1 h1.lt; have k2 := HMB.out.below hb1 HMB.out.lt; have d0 := k0.cell 0 (v := .int .i64 0) rfl; have d00 := k0.cell 1 (v := .slice none 0 0) rfl; have d1 := k1.cell 0 (v := .int .i64 0) rfl; have d2 := k2.cell 0 (v := .int .i64 m.1) rfl; have d3 := k2.cell 1 (v := .slice av m.2.length capv) rfl; have f0 := k0.fz 0; have f00 := k0.fz 1; have f1 := k1.fz 0))
      have hDD : w.heap.size ≤ D := by simp at hD; omega
      obtain ⟨hKf, r0, r00, r1⟩ := end_blks (w := w) (z := 0) (ec := 3) (v := .slice none 0 0) k0 k1 ((hb1.block D (lt_of_block hK)).trans hK)
      refine ⟨by simp, .inl ⟨_, _, rfl, run_takeDeferred hKf, ?_⟩⟩
      refine ⟨.tuple #[.agg #[.int .i64 0, .slice none 0 0], .int .i64 3], ?_, _, (0, []), 3, rfl, mach_zero _, HA.out, ((((hB.trans (hb1.mono hws)).setCell (p := ⟨w.heap.size, 0, none⟩) (Nat.le_refl _) _).setCell (p := ⟨w.heap.size, 1, none⟩) (Nat.le_refl _) _).setCell (p := ⟨w.heap.size + 1, 0, none⟩) (by simp) _).trans (belowK_b (w := w) (Nat.le_refl _) _ D _ _ hDD hKf rfl rfl)⟩
      simp [results, Tryd.results11, go_sem, r0, r00, r1]
  case stop =>
    rintro D pre W hD hpre ⟨⟨hq, h0, h1⟩, hB⟩ hK
    have HA := HNP.out pre hpre hq
    gi_wp2
    refine ⟨by simp, .inl ⟨_, _, rfl, run_takeDeferred hK, ?_⟩⟩
    have r0 := (blk_own h0 (grownBy_putObj' W D (.deferred none)) (fun r e => by cases e; exact ⟨_, hK, rfl⟩)).cell 0 (v := .int .i64 0) rfl
    have r00 := (blk_own h0 (grownBy_putObj' W D (.deferred none)) (fun r e => by cases e; exact ⟨_, hK, rfl⟩)).cell 1 (v := .slice none 0 0) rfl
    have r1 := (blk_own h1 (grownBy_putObj' W D (.deferred none)) (fun r e => by cases e; exact ⟨_, hK, rfl⟩)).cell 0 (v := .int .i64 3) rfl
    refine ⟨.tuple #[.agg #[.int .i64 0, .slice none 0 0], .int .i64 3], ?_, _, (0, []), 3, rfl, mach_zero _, HA, hB.trans (belowK_b (w := w) (Nat.le_refl _) W D _ _ (by simp at hD; omega) hK rfl rfl)⟩
    simp [results, Tryd.results11, go_sem, r0, r00, r1]
set_option maxRecDepth 100000 in
theorem read_longP (s : ByteArray) (w : World) (hl : 20000 < s.size) :
    Calls Tryd.prog 11 #[.string s] w fun e w' => RefRead s w e w' := by
  have hl' : (20000 : Int) < (s.size : Int) := by omega
  have hsl : s.data.toList.length = s.size := by simp
  have HA : Hid (ReadAns s.data.toList (0, []) 1) := ReadAns.long (by omega)
  clear hsl
  refine (callsIn_wide (n := 10)).1 ?_
  refine callsIn_of_wp_marks Tryd.func11 rfl trivial ?_ rfl
  simp only [Tryd.ntmps11, List.size_toArray, List.length_cons, List.length_nil, Nat.reduceAdd, Nat.reduceSub, Array.replicate_succ, Array.replicate_zero, List.push_toArray, List.append_toArray, List.nil_append, List.cons_append]
  gi_wp2
  refine ⟨.tuple #[.agg #[.int .i64 0, .slice none 0 0], .int .i64 1], ?_, _, (0, []), 1, rfl, mach_zero _, HA.out, ((Below.refl _ w).alloc (Nat.le_refl _) _).alloc (by simp) _⟩
  simp [results, Tryd.results11, go_sem]
theorem readP_any (s : ByteArray) (w : World) (ht : Tab w) (he : Errs w) : Calls Tryd.prog 11 #[.string s] w fun e w' => RefRead s w e w' := by
  by_cases h : 20000 < s.size
  · exact read_longP s w h
  · exact callsIn_wide.1 (read_core s w (by omega) ht he)
end Go.Proofs.YthaefajpdncoeaaDoor.Wt
