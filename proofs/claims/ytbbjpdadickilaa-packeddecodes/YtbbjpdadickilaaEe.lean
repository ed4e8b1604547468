/- The program: Encode. -/
import Derived.Test.YtbbjpdadickilaaEo
import Derived.Test.YtbbjpdadickilaaEs
import Derived.Test.YtbbjpdadickilaaMcV
namespace Go.Proofs.Ytbbjpdadickilaa.Wt
open Go.ChangeShapes Go.WideShapes Go.ChangeAt Go.RowKit
open Go.Proofs.Ytbbjpdadickilaa.Pl
set_option linter.unusedVariables false
set_option linter.unusedSimpArgs false
theorem packTo_snoc {z : Int} {l : List St} {k : Nat} (h : k < l.length) : packTo z l (k + 1) = packTo z l k ++ packS ((el l k).1, (el l k).2) := by
  unfold packTo
  rw [take_el h]
  simp
set_option maxRecDepth 100000 in
theorem appendMachine_any (z : Int) (l : List St) (vs : Value) (w : World) (h : Mach w (.agg #[.int .i64 z, vs]) (z, l)) (hr : faultM (z, l) = 0) :
    Calls Try.prog 18 #[.slice none 0 0, .agg #[.int .i64 z, vs]] w fun e w' => AppAns (.slice none 0 0) w.heap.size (packB (z, l)) w e w' := by
  have hz := (faultM_zero hr).2
  simp only [rangeB, Bool.and_eq_true, inB, decide_eq_true_eq] at hz
  have hz1 : -1 ≤ z := hz.1.1
  have h60 := (right_size hr).1
  have h400 := (right_size hr).2
  have hz2 : z ≤ 60 := by omega
  obtain ⟨vs', hvs, hS⟩ := h
  simp only [Value.agg.injEq, Array.mk.injEq, List.cons.injEq, and_true, true_and] at hvs
  subst hvs
  obtain ⟨a, cap, rfl, hc⟩ := hS.get
  have HC : Hid (∀ j, j < l.length → ∃ b off va, a = some ⟨b, off, none⟩ ∧ b < w.heap.size ∧ w.cell? ⟨b, off + j * 2, none⟩ = some (.int .i64 (el l j).1) ∧ w.cell? ⟨b, off + j * 2 + 1, none⟩ = some va ∧ Arcs w va (el l j).2) := hc
  have HST : Hid (∀ j, j < l.length → (∀ c ∈ (el l j).2, 0 ≤ c.2.2.2 ∧ c.2.2.2 < 256) ∧ (el l j).2.length ≤ 400) := fun j hj => ⟨fun c hcm => by
    have h5 := List.all_eq_true.1 (right_st hr hj).2 c hcm
    simp only [arcB, inB, Bool.and_eq_true, decide_eq_true_eq] at h5
    omega, by
    have h1 := arcN_take hj
    have h2 := arcN_take_all l (j + 1)
    omega⟩
  have HTK : Hid (∀ k, (packTo z l k).length ≤ 4000) := fun k => Nat.le_trans (packTo_len z l k) (by omega)
  have HTS : Hid (∀ k, k < l.length → packTo z l (k + 1) = packTo z l k ++ packS ((el l k).1, (el l k).2)) := fun k hk => packTo_snoc hk
  have HTN : Hid (packTo z l l.length = packB (z, l)) := packTo_all z l
  have HT0 : Hid ([] ++ [84] ++ splitL (l.length : Int) 1 ++ splitL (z + 1) 1 = packTo z l 0) := by
    show _ = _
    rw [split_one (by omega) (by omega), split_one (by omega) (by omega)]
    simp [packTo, packH]
  rw [← HTN.out]
  have hal : Below w.heap.size w (w.alloc (.cells #[.int .i64 z, .slice a l.length cap] 24)) := (Below.refl _ _).alloc (Nat.le_refl _) _
  have ho0 : OwnBys w w.heap.size (.slice none 0 0) [] := World.ownsRow_nil _ _ _ _
  have HT : Hid (AppTo w (.slice none 0 0) w.heap.size (w.alloc (.cells #[.int .i64 z, .slice a l.length cap] 24)) (.slice none 0 0) []) := (AppTo.start ho0).new hal
  have HBW : Hid (∀ W v' l', AppTo w (.slice none 0 0) w.heap.size W v' l' → Below w.heap.size w W) := fun W v' l' g => g.below ho0 (Nat.le_refl _)
  have hk0 : Blk (w.alloc (.cells #[.int .i64 z, .slice a l.length cap] 24)) w.heap.size #[.int .i64 z, .slice a l.length cap] 24 := Blk.made w _ _
  generalize hW0 : w.alloc (.cells #[.int .i64 z, .slice a l.length cap] 24) = W0 at *
  have hal2 : Below W0.heap.size W0 (W0.alloc (.cells #[.int .u8 84] 5)) := (Below.refl _ _).alloc (Nat.le_refl _) _
  obtain ⟨nn, aa, cc, wm, hR, hO, hG, hN⟩ := OwnBys.appS (HT.out.own.later hal2) (bys_block (ws := [84]) (cap := 1) (Blk.made W0 #[.int .u8 84] 5)) (by simp) (by have := hal.size; simp; omega)
  have hta : AppTo (W0.alloc (.cells #[.int .u8 84] 5)) (.slice none 0 0) w.heap.size wm (.slice aa nn cc) ([] ++ [84]) := ⟨hO, hG, hN⟩
  have HK : Hid (Blk wm w.heap.size #[.int .i64 z, .slice a l.length cap] 24) := hta.blk (HT.out.own.later hal2) (hk0.alloc _) (by decide)
  replace HT := hid ((HT.out.new hal2).trans hta)
  subst hW0
  simp only [World.size_alloc, List.length_singleton] at hR
  have R := hid hR
  have g0 := HK.out.cell 0 (v := .int .i64 z) rfl
  have g1 := HK.out.cell 1 (v := .slice a l.length cap) rfl
  clear hS hc hr hz hal ho0 hk0 hal2 hR hO hG hN hta HTN
  generalize hn : l.length = n at *
  have HN : Hid (l.length = n) := hn
  clear hn
  have u1 : IntKind.i64.wrap (z + 1) = z + 1 := wrapI (by omega) (by omega)
  go_enter Try.func18, Try.ntmps18
  go_wp2_with (first
    | (at_builtin; refine wpListAppendRun rfl _ _ 26 rfl rfl rfl R.out ?_; clear R)
    | (go_at_call 19; (with_reducible refine (appendNumber1 _ _ _ _ _ HT.out.own (by (try simp only [List.length_append, splitL_len, List.length_singleton, List.length_nil]); omega) (HBW.out _ _ _ HT.out).size).mono ?_); rintro e w1 ⟨a1, n1, c1, rfl, ht⟩; have HK := hid (ht.blk HT.out.1 HK.out (by decide)); have HT := hid (HT.out.trans ht); have g0 := HK.out.cell 0 (v := .int .i64 z) rfl; have g1 := HK.out.cell 1 (v := .slice a n cap) rfl; clear ht))
  rw [HT0.out] at HT
  go_loopw [0, 23] (fun s0 i wr => ∃ (k : Nat), k ≤ n ∧ i = .int .i64 k ∧ Hid (AppTo w (.slice none 0 0) w.heap.size wr s0 (packTo z l k))) (fun _ i _ => n - (intOf i).toNat)
  case atStart => exact ⟨0, Nat.zero_le _, rfl, HT⟩
  case round =>
    obtain ⟨k, hk, rfl, ht⟩ := hrel
    clear HT HK HT0 g0 g1
    obtain ⟨a5, n5, c5, hv5⟩ := ht.out.own.sl
    subst hv5
    by_cases hkn : k < n
    · obtain ⟨b, off, va, rfl, hbl, g0, g1, gA⟩ := HC.out k hkn
      obtain ⟨a2, cap2, hva, hga⟩ := gA.get
      subst hva
      have hbw := HBW.out _ _ _ ht.out
      have g0 := (hbw.cell (p := ⟨b, off + k * 2, none⟩) hbl).trans g0
      have g1 := (hbw.cell (p := ⟨b, off + k * 2 + 1, none⟩) hbl).trans g1
      obtain ⟨hto, hL4⟩ := HST.out k hkn
      have HTO : Hid (∀ c ∈ (el l k).2, 0 ≤ c.2.2.2 ∧ c.2.2.2 < 256) := hto
      have HAR : Hid (∀ W, Below w.heap.size w W → Arcs W (.slice a2 (el l k).2.length cap2) (el l k).2) := fun W hW => gA.later hW (Nat.le_refl _)
      have HTE : Hid (packTo z l (k + 1) = packTo z l k ++ packS ((el l k).1, (el l k).2)) := HTS.out k hkn
      have hks := HTK.out k
      clear gA hga hto
      generalize (el l k).1 = fin at *
      generalize (el l k).2 = ar at *
      generalize packTo z l k = TK at *
      have HAC : Hid (∀ W v', AppTo w (.slice none 0 0) w.heap.size W v' TK → Calls Try.prog 30 #[v', .agg #[.int .i64 fin, .slice a2 ar.length cap2]] W fun e w' => AppAns v' w.heap.size (TK ++ packS (fin, ar)) W e w') := fun W v' g =>
        appendState_any v' TK fin ar _ w.heap.size W g.own (by omega) (HBW.out _ _ _ g).size (fun W' hW' => HAR.out W' ((HBW.out _ _ _ g).trans hW')) HTO.out
      have hal : Below wr.heap.size wr (wr.alloc (.cells #[.int .i64 fin, .slice a2 ar.length cap2] 45)) := (Below.refl _ _).alloc (Nat.le_refl _) _
      have HT2 := hid (ht.out.new hal)
      generalize hL : ar.length = L at *
      have hk0 : (0 : Int) ≤ (k : Int) := by omega
      have hk1 : (k : Int) < (n : Int) := by omega
      clear hal hbw hL
      go_wp2_with (first
        | (go_at_call 30; (with_reducible refine (HAC.out _ _ HT2.out).mono ?_); rintro e w1 ⟨a1, n1, c1, rfl, ht1⟩; have HT3 := hid (HT2.out.trans ht1); clear ht1))
      go_roundw
      case rel => exact ⟨k + 1, by omega, by go_num, by rw [HTE.out]; exact HT3⟩
      case measure => simp [intOf]; omega
    · have hnl : ¬ (k : Int) < (n : Int) := by omega
      obtain rfl : k = n := by omega
      go_wp2
      go_ret
      exact ⟨_, _, _, rfl, ht.out⟩
theorem u16_i64 {n : Int} (h : 0 ≤ n ∧ n < 65536) : IntKind.i64.wrap n = n := wrapI (by omega) (by omega)
set_option maxRecDepth 100000 in
theorem encodeP_any (v : Value) (m : Mc) (w : World) (h : Mach w v m) (hok : okM m) : Calls Try.prog 8 #[v] w fun e w' => PackAns m w e w' := by
  obtain ⟨z, l⟩ := m
  obtain ⟨r, hr⟩ : ∃ r, faultM (z, l) = r := ⟨_, rfl⟩
  have HM : Hid (Mach w v (z, l)) := h
  have HK : Hid (okM (z, l)) := hok
  have HR : Hid (faultM (z, l) = r) := hr
  obtain ⟨vs, rfl, hS⟩ := h
  obtain ⟨a, cap, rfl⟩ := hS.sl
  clear hS hok
  by_cases h0 : r = 0
  · subst h0
    have HA : Hid (∀ v w', OwnBys w' w.heap.size v (packB (z, l) ++ splitL (crcN (packB (z, l))) 2) → Below w.heap.size w w' → PackAns (z, l) w (.returned (.tuple #[v, .int .i64 0])) w') := fun v w' h1 hb => ⟨_, by rw [hr], by rw [if_pos hr]; exact h1, hb⟩
    have HPB : Hid (bytesB (packB (z, l)) ∧ (packB (z, l)).length ≤ 3963) := ⟨packB_bytes hr, pack_short hr⟩
    have HAM : Hid (∀ W, Below w.heap.size w W → Calls Try.prog 18 #[.slice none 0 0, .agg #[.int .i64 z, .slice a l.length cap]] W fun e w' => AppAns (.slice none 0 0) W.heap.size (packB (z, l)) W e w') := fun W hW => appendMachine_any z l _ W (HM.out.later hW (Nat.le_refl _)) hr
    have hcr := crcN_range (packB (z, l))
    clear hr
    generalize packB (z, l) = PB at *
    have HCR : Hid (∀ W v, Bys W v PB → Calls Try.prog 20 #[v] W fun e w' => e = .returned (.int .u16 (crcN PB)) ∧ W = w') := fun W v h => sumOf_any v PB W h HPB.out.1 (by have := HPB.out.2; omega)
    have hpl := HPB.out.2
    generalize crcN PB = cr at *
    have uc : IntKind.i64.wrap cr = cr := u16_i64 hcr
    go_enter Try.func8, Try.ntmps8
    go_wp2_with (first
      | (go_at_call 17; (with_reducible refine (coreCheck_any _ (z, l) _ (HM.out.later (B := w.heap.size) (by go_grown) (Nat.le_refl _)) HK.out 0 HR.out).mono ?_); rintro e w1 ⟨rfl, hb⟩; obtain ⟨s1, b1, hb1⟩ := boxed hb (by simp); have HB1 : Hid (Below w.heap.size w w1) := hb1; have c0 := b1.cell 0 (v := .int .i64 z) rfl; have c1 := b1.cell 1 (v := .slice a l.length cap) rfl; clear b1 hb1 hb)
      | (go_at_call 18; (with_reducible refine (HAM.out _ HB1.out).mono ?_); rintro e w2 ⟨a2, n2, c2, rfl, ht⟩; have HO : Hid (OwnBys w2 w1.heap.size (.slice a2 n2 c2) PB) := ht.own; have HB2 : Hid (Below w1.heap.size w1 w2) := ht.below (l := []) (World.ownsRow_nil _ _ _ _) (Nat.le_refl _); clear ht)
      | (go_at_call 20; (with_reducible refine (HCR.out _ _ HO.out.bys).mono ?_); rintro e w3 ⟨rfl, rfl⟩)
      | (go_at_call 19; (with_reducible refine (appendNumber2 _ _ _ _ _ HO.out (by omega) HB2.out.size).mono ?_); rintro e w3 ⟨a3, n3, c3, rfl, ht⟩; have HO3 : Hid (OwnBys w3 w1.heap.size (.slice a3 n3 c3) (PB ++ splitL cr 2)) := ht.own; have HB3 : Hid (Below w1.heap.size w1 w3) := HB2.out.trans (ht.below HO.out HB2.out.size); clear ht))
    exact bodyPost_ret (v := .tuple #[.slice a3 n3 c3, .int .i64 0]) (by simp [results, Try.results8, go_sem]) rfl (HA.out _ _ (ownMono HO3.out HB1.out.size) (HB1.out.trans (HB3.out.mono HB1.out.size)))
  · have HA : Hid (∀ w', Below w.heap.size w w' → PackAns (z, l) w (.returned (.tuple #[.slice none 0 0, .int .i64 r])) w') := fun w' hb => ⟨_, by rw [hr], by rw [if_neg (by rw [hr]; exact h0)]; exact World.ownsRow_nil _ _ _ _, hb⟩
    have h0' : (r != 0) = true := bne_iff_ne.2 h0
    clear hr h0
    go_enter Try.func8, Try.ntmps8
    go_wp2_with (first
      | (go_at_call 17; (with_reducible refine (coreCheck_any _ (z, l) _ (HM.out.later (B := w.heap.size) (by go_grown) (Nat.le_refl _)) HK.out r HR.out).mono ?_); rintro e w1 ⟨rfl, hb⟩; obtain ⟨s1, b1, hb1⟩ := boxed hb (by simp); have HB1 : Hid (Below w.heap.size w w1) := hb1; clear b1 hb1 hb))
    exact bodyPost_ret (v := .tuple #[.slice none 0 0, .int .i64 r]) (by simp [results, Try.results8, go_sem]) rfl (HA.out _ HB1.out)
end Go.Proofs.Ytbbjpdadickilaa.Wt
