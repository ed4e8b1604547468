/- The reference: a machine as bytes. -/
import Derived.Test.YtbbjpdadickilaaBp
import Derived.Test.YtbbjpdadickilaaCr
import Derived.Test.YtbbjpdadickilaaMcR
namespace Go.Proofs.Ytbbjpdadickilaa.Wt
open Go.ChangeShapes Go.WideShapes Go.ChangeAt Go.RowKit
open Go.Proofs.Ytbbjpdadickilaa.Pl
set_option linter.unusedVariables false
set_option linter.unusedSimpArgs false
set_option maxRecDepth 100000 in
theorem packedR_bad (v : Value) (m : Mc) (w : World) (h : Mach w v m) (hok : okM m) (h0 : faultM m ≠ 0) :
    Calls Try.prog 9 #[v] w fun e w' => PackAns m w e w' := by
  obtain ⟨z, l⟩ := m
  obtain ⟨r, hr⟩ : ∃ r, faultM (z, l) = r := ⟨_, rfl⟩
  have HM : Hid (Mach w v (z, l)) := h
  have HK : Hid (okM (z, l)) := hok
  have HR : Hid (faultM (z, l) = r) := hr
  have HA : Hid (∀ w', Below w.heap.size w w' → PackAns (z, l) w (.returned (.tuple #[.slice none 0 0, .int .i64 r])) w') := fun w' hb => ⟨_, by rw [hr], by rw [if_neg h0]; exact World.ownsRow_nil _ _ _ _, hb⟩
  have h0' : (r != 0) = true := bne_iff_ne.2 (by rw [← hr]; exact h0)
  obtain ⟨vs, rfl, hS⟩ := h
  obtain ⟨a, cap, rfl⟩ := hS.sl
  clear hS hok hr h0
  go_enter Try.func9, Try.ntmps9
  go_wp2_with (first
    | (go_at_call 21; (with_reducible refine (fault_any _ (z, l) _ (HM.out.later (B := w.heap.size) (by go_grown) (Nat.le_refl _)) HK.out r HR.out).mono ?_); rintro e w1 ⟨rfl, hb⟩; obtain ⟨s1, b1, hb1⟩ := boxed hb (by simp); have HB1 : Hid (Below w.heap.size w w1) := hb1; clear b1 hb1 hb))
  exact bodyPost_ret (v := .tuple #[.slice none 0 0, .int .i64 r]) (by simp [results, Try.results9, go_sem]) rfl (HA.out _ HB1.out)
set_option maxRecDepth 100000 in
set_option maxHeartbeats 3200000 in
theorem packedR_ok (z : Int) (l : List St) (vs : Value) (w : World) (h : Mach w (.agg #[.int .i64 z, vs]) (z, l)) (hok : okM (z, l)) (hr : faultM (z, l) = 0) :
    Calls Try.prog 9 #[.agg #[.int .i64 z, vs]] w fun e w' => PackAns (z, l) w e w' := by
  have HM : Hid (Mach w (.agg #[.int .i64 z, vs]) (z, l)) := h
  have HK : Hid (okM (z, l)) := hok
  have HR : Hid (faultM (z, l) = 0) := hr
  have hz := (faultM_zero hr).2
  simp only [rangeB, Bool.and_eq_true, inB, decide_eq_true_eq] at hz
  have hz1 : -1 ≤ z := hz.1.1
  have h60 := (right_size hr).1
  have h400 := (right_size hr).2
  have hz2 : z ≤ 60 := by omega
  obtain ⟨vs', hvs, hS⟩ := h
  simp only [Value.agg.injEq, Array.mk.injEq, List.cons.injEq, and_true, true_and] at hvs
  subst hvs
  obtain ⟨a, cap, rfl, hc⟩ := hS.get
  have HC : Hid (∀ j, j < l.length → ∃ b off va, a = some ⟨b, off, none⟩ ∧ b < w.heap.size ∧ w.cell? ⟨b, off + j * 2, none⟩ = some (.int .i64 (el l j).1) ∧ w.cell? ⟨b, off + j * 2 + 1, none⟩ = some va ∧ Arcs w va (el l j).2) := hc
  have HST : Hid (∀ j, j < l.length → finB (el l j).1 = true ∧ (el l j).2.all (arcB l.length) = true ∧ (el l j).2.length ≤ 400) := fun j hj => ⟨(right_st hr hj).1, (right_st hr hj).2, by
    have h1 := arcN_take hj
    have h2 := arcN_take_all l (j + 1)
    omega⟩
  have HTA : Hid (∀ k j, k < l.length → (packTa z l k j).length ≤ 4000) := fun k j hk => Nat.le_trans (packTa_len hk) (by omega)
  have HTK : Hid (∀ k, (packTo z l k).length ≤ 4000) := fun k => Nat.le_trans (packTo_len z l k) (by omega)
  have HTN : Hid (packTo z l l.length = packB (z, l)) := packTo_all z l
  have HTS : Hid (∀ k, k < l.length → packTo z l (k + 1) = packTa z l k (el l k).2.length) := fun k hk => packTo_succ hk
  have HPB : Hid (bytesB (packB (z, l)) ∧ (packB (z, l)).length ≤ 3963) := ⟨packB_bytes hr, pack_short hr⟩
  have HT0 : Hid ([84, (l.length : Int), z + 1] = packTo z l 0) := by show _ = _; simp [packTo, packH]
  have HA : Hid (∀ v w', OwnBys w' w.heap.size v (packB (z, l) ++ splitL (crcN (packB (z, l))) 2) → Below w.heap.size w w' → PackAns (z, l) w (.returned (.tuple #[v, .int .i64 0])) w') := fun v w' h1 hb => ⟨_, by rw [hr], by rw [if_pos hr]; exact h1, hb⟩
  have hcr := crcN_range (packB (z, l))
  clear hS hc hr hz hok
  generalize hn : l.length = n at *
  have HN : Hid (l.length = n) := hn
  clear hn
  generalize packB (z, l) = PB at *
  have c1 : IntKind.u8.wrap (n : Int) = (n : Int) := by rw [IntKind.wrap_u8]; omega
  have c2 : IntKind.u8.wrap (z + 1) = z + 1 := by rw [IntKind.wrap_u8]; omega
  go_enter Try.func9, Try.ntmps9
  go_wp2_with (first
    | (go_at_call 21; (with_reducible refine (fault_any _ (z, l) _ (HM.out.later (B := w.heap.size) (by go_grown) (Nat.le_refl _)) HK.out 0 HR.out).mono ?_); rintro e w1 ⟨rfl, hb⟩; obtain ⟨s1, b1, hb1⟩ := boxed hb (by simp); have HB1 : Hid (Below w.heap.size w w1) := hb1; have K1 : Hid (Blk w1 w.heap.size #[.int .i64 z, .slice a n cap] 24) := b1; have c0 := b1.cell 0 (v := .int .i64 z) rfl; have c00 := b1.cell 1 (v := .slice a n cap) rfl; clear b1 hb1 hb))
  have HO0 : Hid (OwnBys (w1.alloc (.cells #[.int .u8 84, .int .u8 (n : Int), .int .u8 (z + 1)] 5)) w1.heap.size (.slice (some ⟨w1.heap.size, 0, none⟩) 3 3) (packTo z l 0)) := by
    rw [← HT0.out]
    exact OwnBys.block (ws := [84, (n : Int), z + 1]) (Blk.made w1 _ _) (Nat.le_refl _) (by simp)
  go_loopw [5, 6] (fun s5 i wr => ∃ (k : Nat), k ≤ n ∧ i = .int .i64 k ∧ Hid (OwnBys wr w1.heap.size s5 (packTo z l k)) ∧ Hid (Below w1.heap.size w1 wr)) (fun _ i _ => n - (intOf i).toNat)
  case atStart => exact ⟨0, Nat.zero_le _, rfl, HO0, (Below.refl _ _).alloc (Nat.le_refl _) _⟩
  case round =>
    clear HO0 c0 c00 c1 c2
    obtain ⟨k, hk, rfl, ho, hb⟩ := hrel
    obtain ⟨a5, n5, cp5, hv5⟩ := ho.out.sl
    subst hv5
    have q1 := (K1.out.below hb.out K1.out.lt).cell 1 (v := .slice a n cap) rfl
    have hws := hb.out.size
    have hws1 := HB1.out.size
    by_cases hkn : k < n
    · obtain ⟨b, off, va, rfl, hbl, g0, g1, gA⟩ := HC.out k hkn
      obtain ⟨a2, cap2, hva, hga⟩ := gA.get
      subst hva
      have g0 := ((hb.out.cell (p := ⟨b, off + k * 2, none⟩) (by show b < _; omega)).trans (HB1.out.cell (p := ⟨b, off + k * 2, none⟩) hbl)).trans g0
      have g1 := ((hb.out.cell (p := ⟨b, off + k * 2 + 1, none⟩) (by show b < _; omega)).trans (HB1.out.cell (p := ⟨b, off + k * 2 + 1, none⟩) hbl)).trans g1
      have HGA : Hid (∀ j, j < (el l k).2.length → ∃ b off, a2 = some ⟨b, off, none⟩ ∧ b < w.heap.size ∧ w.cell? ⟨b, off + j * 4, none⟩ = some (.int .i64 (el (el l k).2 j).1) ∧ w.cell? ⟨b, off + j * 4 + 1, none⟩ = some (.int .i64 (el (el l k).2 j).2.1) ∧ w.cell? ⟨b, off + j * 4 + 2, none⟩ = some (.int .i64 (el (el l k).2 j).2.2.1) ∧ w.cell? ⟨b, off + j * 4 + 3, none⟩ = some (.int .i64 (el (el l k).2 j).2.2.2)) := hga
      obtain ⟨hfin, harc, hL4⟩ := HST.out k hkn
      have HAR : Hid ((el l k).2.all (arcB n) = true) := harc
      have hf1 : 0 ≤ (el l k).1 ∧ (el l k).1 ≤ 1000000001 := by
        simp only [finB, inB, Bool.or_eq_true, Bool.and_eq_true, decide_eq_true_eq] at hfin
        omega
      have HTJ : Hid (∀ j, j < (el l k).2.length → packTa z l k (j + 1) = packTa z l k j ++ splitL (el (el l k).2 j).1 2 ++ splitL (el (el l k).2 j).2.1 2 ++ splitL (el (el l k).2 j).2.2.1 4 ++ [(el (el l k).2 j).2.2.2]) := fun j hj => packTa_succ hj
      have HT1 : Hid (packTo z l k ++ splitL (el l k).1 4 ++ splitL ((el l k).2.length : Int) 2 = packTa z l k 0) := by show _ = _; simp [packTa]
      have HTE : Hid (packTo z l (k + 1) = packTa z l k (el l k).2.length) := HTS.out k hkn
      have HTC : Hid (∀ j, (packTa z l k j).length ≤ 4000) := fun j => HTA.out k j hkn
      have hks := HTK.out k
      clear gA hga harc hfin
      generalize (el l k).1 = fin at *
      generalize (el l k).2 = ar at *
      generalize packTa z l k = TA at *
      generalize hL : ar.length = L at *
      have HL : Hid (ar.length = L) := hL
      clear hL
      generalize packTo z l k = TK at *
      have hk0 : (0 : Int) ≤ (k : Int) := by omega
      have hk1 : (k : Int) < (n : Int) := by omega
      go_wp2_with (first
        | (go_at_call 22; (with_reducible refine (split4 _ _ (by omega) (by omega)).mono ?_); rintro e ws ⟨rfl, hsb, hsw⟩; obtain ⟨nn, aa, cc, wn, hR, hO, hW⟩ := OwnBys.appN (ho.out.later hsw) hsb (by simp only [List.length_append, splitL_len]; omega) (Nat.le_trans hb.out.size hsw.size); have R := hid hR; have hb := hid ((hb.out.trans (hsw.mono hb.out.size)).trans hW); have ho := hid hO; clear hsb hsw hR hO hW)
        | (go_at_call 22; (with_reducible refine (split2 _ _ (by omega) (by omega)).mono ?_); rintro e ws ⟨rfl, hsb, hsw⟩; obtain ⟨nn, aa, cc, wn, hR, hO, hW⟩ := OwnBys.appN (ho.out.later hsw) hsb (by simp only [List.length_append, splitL_len]; omega) (Nat.le_trans hb.out.size hsw.size); have R := hid hR; have hb := hid ((hb.out.trans (hsw.mono hb.out.size)).trans hW); have ho := hid hO; clear hsb hsw hR hO hW)
        | (at_builtin; refine wpListAppendRun rfl _ _ 26 rfl rfl rfl R.out ?_; clear R))
      rw [HT1.out] at ho
      go_loopw [5, 8] (fun s5 i wr => ∃ (j : Nat), j ≤ L ∧ i = .int .i64 j ∧ Hid (OwnBys wr w1.heap.size s5 (TA j)) ∧ Hid (Below w1.heap.size w1 wr)) (fun _ i _ => L - (intOf i).toNat)
      case atStart => exact ⟨0, Nat.zero_le _, rfl, ho, hb⟩
      case round =>
        clear HT1 ho hb g0 g1 q1
        obtain ⟨j, hj, rfl, ho, hb⟩ := hrel
        obtain ⟨a6, n6, cp6, hv6⟩ := ho.out.sl
        subst hv6
        by_cases hjL : j < L
        · obtain ⟨b3, off3, rfl, hb3l, e0, e1, e2, e3⟩ := HGA.out j hjL
          have hcar := List.all_eq_true.1 HAR.out (el ar j) (el_mem (by rw [HL.out]; exact hjL))
          simp only [arcB, inB, Bool.and_eq_true, decide_eq_true_eq] at hcar
          have HJ : Hid (TA (j + 1) = TA j ++ splitL (el ar j).1 2 ++ splitL (el ar j).2.1 2 ++ splitL (el ar j).2.2.1 4 ++ [(el ar j).2.2.2]) := HTJ.out j hjL
          have hjs := HTC.out j
          have EW : Hid (∀ W : World, Below w1.heap.size w1 W → W.cell? ⟨b3, off3 + j * 4, none⟩ = some (.int .i64 (el ar j).1) ∧ W.cell? ⟨b3, off3 + j * 4 + 1, none⟩ = some (.int .i64 (el ar j).2.1) ∧ W.cell? ⟨b3, off3 + j * 4 + 2, none⟩ = some (.int .i64 (el ar j).2.2.1) ∧ W.cell? ⟨b3, off3 + j * 4 + 3, none⟩ = some (.int .i64 (el ar j).2.2.2)) := fun W hW =>
            ⟨((hW.cell (p := ⟨b3, off3 + j * 4, none⟩) (by show b3 < _; omega)).trans (HB1.out.cell (p := ⟨b3, off3 + j * 4, none⟩) hb3l)).trans e0, ((hW.cell (p := ⟨b3, off3 + j * 4 + 1, none⟩) (by show b3 < _; omega)).trans (HB1.out.cell (p := ⟨b3, off3 + j * 4 + 1, none⟩) hb3l)).trans e1, ((hW.cell (p := ⟨b3, off3 + j * 4 + 2, none⟩) (by show b3 < _; omega)).trans (HB1.out.cell (p := ⟨b3, off3 + j * 4 + 2, none⟩) hb3l)).trans e2, ((hW.cell (p := ⟨b3, off3 + j * 4 + 3, none⟩) (by show b3 < _; omega)).trans (HB1.out.cell (p := ⟨b3, off3 + j * 4 + 3, none⟩) hb3l)).trans e3⟩
          clear e0 e1 e2 e3
          generalize el ar j = c at *
          generalize c.1 = x0 at *
          generalize c.2.1 = x1 at *
          generalize c.2.2.1 = x2 at *
          generalize c.2.2.2 = x3 at *
          obtain ⟨e0, e1, e2, e3⟩ := EW.out _ hb.out
          have cv : IntKind.u8.wrap x3 = x3 := by rw [IntKind.wrap_u8]; omega
          have hj0 : (0 : Int) ≤ (j : Int) := by omega
          have hj1 : (j : Int) < (L : Int) := by omega
          go_wp2_with (first
            | (go_at_call 22; (with_reducible refine (split4 _ _ (by omega) (by omega)).mono ?_); rintro e ws ⟨rfl, hsb, hsw⟩; obtain ⟨nn, aa, cc, wn, hR, hO, hW⟩ := OwnBys.appN (ho.out.later hsw) hsb (by simp only [List.length_append, splitL_len]; omega) (Nat.le_trans hb.out.size hsw.size); have R := hid hR; have hb := hid ((hb.out.trans (hsw.mono hb.out.size)).trans hW); have ho := hid hO; obtain ⟨e0, e1, e2, e3⟩ := EW.out _ hb.out; clear hsb hsw hR hO hW)
            | (go_at_call 22; (with_reducible refine (split2 _ _ (by omega) (by omega)).mono ?_); rintro e ws ⟨rfl, hsb, hsw⟩; obtain ⟨nn, aa, cc, wn, hR, hO, hW⟩ := OwnBys.appN (ho.out.later hsw) hsb (by simp only [List.length_append, splitL_len]; omega) (Nat.le_trans hb.out.size hsw.size); have R := hid hR; have hb := hid ((hb.out.trans (hsw.mono hb.out.size)).trans hW); have ho := hid hO; obtain ⟨e0, e1, e2, e3⟩ := EW.out _ hb.out; clear hsb hsw hR hO hW)
            | (at_builtin; refine wpListAppendRun rfl _ _ 26 rfl rfl rfl R.out ?_; clear R)
            | (at_builtin; obtain ⟨nn, aa, cc, wm, hR, hO, hW⟩ := OwnBys.appN (ho.out.later ((Below.refl _ _).alloc (Nat.le_refl _) (.cells #[.int .u8 x3] 5))) (bys_block (ws := [x3]) (cap := 1) (Blk.made wn #[.int .u8 x3] 5)) (by simp only [List.length_append, splitL_len, List.length_singleton]; omega) (by simp; exact Nat.le_succ_of_le hb.out.size); refine wpListAppendRun rfl _ _ 26 rfl rfl rfl hR ?_; have hb := hid ((hb.out.alloc hb.out.size _).trans hW); have ho := hid hO; clear hR hO hW))
          rw [← HJ.out] at ho
          go_roundw
          case rel => exact ⟨j + 1, by omega, by go_num, ho, hb⟩
          case measure => simp [intOf]; omega
        · have hnl : ¬ (j : Int) < (L : Int) := by omega
          obtain rfl : j = L := by omega
          go_wp2
          go_roundw
          case rel => exact ⟨k + 1, by omega, by go_num, by rw [HTE.out]; exact ho, hb⟩
          case measure => simp [intOf]; omega
    · have hnl : ¬ (k : Int) < (n : Int) := by omega
      obtain rfl : k = n := by omega
      rw [HTN.out] at ho
      have HCR : Hid (∀ W v, Bys W v PB → Calls Try.prog 23 #[v] W fun e w' => e = .returned (.int .i64 (crcN PB)) ∧ Below W.heap.size W w') := fun W v h => remainder_any v PB W h HPB.out.1 (by have := HPB.out.2; omega)
      have hpl := HPB.out.2
      generalize crcN PB = cr at *
      go_wp2_with (first
        | (go_at_call 23; (with_reducible refine (HCR.out _ _ ho.out.bys).mono ?_); rintro e wc ⟨rfl, hcw⟩; have ho := hid (ho.out.later hcw); have hb := hid (hb.out.trans (hcw.mono hb.out.size)); clear hcw)
        | (go_at_call 22; (with_reducible refine (split2 _ _ (by omega) (by omega)).mono ?_); rintro e ws ⟨rfl, hsb, hsw⟩; obtain ⟨nn, aa, cc, wn, hR, hO, hW⟩ := OwnBys.appN (ho.out.later hsw) hsb (by simp only [List.length_append, splitL_len]; omega) (Nat.le_trans hb.out.size hsw.size); have R := hid hR; have hb := hid ((hb.out.trans (hsw.mono hb.out.size)).trans hW); have ho := hid hO; clear hsb hsw hR hO hW)
        | (at_builtin; refine wpListAppendRun rfl _ _ 26 rfl rfl rfl R.out ?_; clear R))
      exact bodyPost_ret (v := .tuple #[.slice aa nn cc, .int .i64 0]) (by simp [results, Try.results9, go_sem]) rfl (HA.out _ _ (ownMono ho.out hws1) (HB1.out.trans (hb.out.mono hws1)))
theorem packedR_any (v : Value) (m : Mc) (w : World) (h : Mach w v m) (hok : okM m) : Calls Try.prog 9 #[v] w fun e w' => PackAns m w e w' := by
  by_cases h0 : faultM m = 0
  · obtain ⟨z, l⟩ := m
    obtain ⟨vs, rfl, hS⟩ := h
    exact packedR_ok z l vs w ⟨vs, rfl, hS⟩ hok h0
  · exact packedR_bad v m w h hok h0
end Go.Proofs.Ytbbjpdadickilaa.Wt
