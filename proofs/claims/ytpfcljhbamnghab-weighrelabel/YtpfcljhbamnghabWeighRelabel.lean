/- The statement WeighRelabel: whatever numbers a machine and two words are made of, labels that are exchanged cost the same for words with the labels exchanged, for every input and without any condition. -/
import Derived.Test.YtpfcljhbamnghabMd
import Derived.Test.YtpfcljhbamnghabKi
import Derived.Test.YtpfcljhbamnghabKj
import Derived.Test.YtpfcljhbamnghabWy
import Derived.Test.YtpfcljhbamnghabTf
import Derived.Test.YtpfcljhbamnghabCc
import Derived.Test.YtpfcljhbamnghabPlainWq
import Derived.Test.YtpfcljhbamnghabLo
import Derived.Lib.SmallJoins
import Derived.ChangeOld
import Derived.Below
namespace Go.Proofs.Ytpfcljhbamnghab.weighRelabel
open Go.ChangeShapes Go.WideShapes Go.ChangeAt Go.RowKit
open Go.Proofs.Ytpfcljhbamnghab.Pl Go.Proofs.Ytpfcljhbamnghab.Wt
set_option linter.unusedVariables false
set_option linter.unusedSimpArgs false

theorem own : ownKnob Try.prog.godebug = none := by kernel_rfl
theorem laidOut : laidOutB Try.prog = true := by kernel_rfl
theorem chs_two {w : World} {b : Nat} (h : Blk w b #[.int .i64 1, .int .i64 2, .int .i64 2, .int .i64 1] 43) : Chs w (.slice (some ⟨b, 0, none⟩) 2 2) [(1, 2), (2, 1)] := by
  refine .inr ⟨⟨b, 0, none⟩, 2, rfl, fun j hj i u hu => ?_⟩
  have hj' : j = 0 ∨ j = 1 := by simp at hj; omega
  rw [Addr.add_lit, Nat.zero_add]
  rcases hj' with rfl | rfl
  · match i, hu with
    | 0, hu => simp [encC, el] at hu; subst hu; exact h.cell 0 rfl
    | 1, hu => simp [encC, el] at hu; subst hu; exact h.cell 1 rfl
    | i + 2, hu => simp [encC] at hu
  · match i, hu with
    | 0, hu => simp [encC, el] at hu; subst hu; exact h.cell 2 rfl
    | 1, hu => simp [encC, el] at hu; subst hu; exact h.cell 3 rfl
    | i + 2, hu => simp [encC] at hu
set_option maxRecDepth 100000 in
set_option maxHeartbeats 1600000 in
theorem core (vx : Value) (rx : Rw) (vv : Value) (zv : List Int) (vt : Value) (zt : List Int) (w : World) (hx : RawV w vx rx ∧ okR rx ∧ wfR rx) (hzv : Nums w vv zv) (hwv : ∀ n ∈ zv, (Lit.int .i64 n).wf = true) (hzt : Nums w vt zt) (hwt : ∀ n ∈ zt, (Lit.int .i64 n).wf = true) :
    Calls Try.prog 8 #[vx, vv, vt] w fun e w' => e = .returned (.bool true) ∧ Below w.heap.size w w' := by
  obtain ⟨hx, hokx, hwfx⟩ := hx
  have HIx : Hid (RawV w vx rx) := hx
  have HOKx : Hid (okR rx) := hokx
  have HWFx : Hid (wfR rx) := hwfx
  obtain ⟨hfx, hcx, hlx, hax, hpx⟩ := made_facts rx 5 (by omega) (by omega)
  have HEx : Hid (∀ v W, RawV W v rx → okR rx → wfR rx → Calls Try.prog 9 #[v, .int .i64 5, .bool false] W fun e w' => ∃ v', e = .returned v' ∧ Mach w' v' (madeM rx 5 false) ∧ Below W.heap.size W w') := fun v W h1 h2 h3 => made_any v rx 5 false W h1 h2 h3 (by omega) (by omega)
  obtain ⟨vs0x, rfl, hNx⟩ := hx
  obtain ⟨a0x, c0x, rfl, hNxx⟩ := hNx.get
  clear hNx hNxx hokx hwfx
  have HZv := hidP hzv
  have HWDv : Hid (∀ v W, Nums W v zv → Calls Try.prog 11 #[v, .int .i64 4] W fun e w' => ∃ v', e = .returned v' ∧ Nums w' v' (wdL zv 4) ∧ Below W.heap.size W w') := fun v W h1 => word_any v zv 4 W h1 hwv (by omega)
  have ewv : wrdE (wdL zv 4) = 0 := wdL_wrd (by omega)
  have lwv := wdL_len zv 4
  clear hzv hwv
  have HZt := hidP hzt
  have HWDt : Hid (∀ v W, Nums W v zt → Calls Try.prog 11 #[v, .int .i64 4] W fun e w' => ∃ v', e = .returned v' ∧ Nums w' v' (wdL zt 4) ∧ Below W.heap.size W w') := fun v W h1 => word_any v zt 4 W h1 hwt (by omega)
  have ewt : wrdE (wdL zt 4) = 0 := wdL_wrd (by omega)
  have lwt := wdL_len zt 4
  clear hzt hwt
  have u1 : relE [(1, 2), (2, 1)] [] (madeM rx 5 false) = 0 := by
    unfold relE
    rw [if_neg (by simp [hfx]), if_neg (by simp [sw_flt.1])]
    exact sw_flt.2
  have u2 : relR [(1, 2), (2, 1)] [] (madeM rx 5 false) = swM (madeM rx 5 false) := by
    unfold relR
    rw [if_pos u1]
    exact rel_sw _
  have u3 : faultM (swM (madeM rx 5 false)) = 0 := sw_right hfx
  have hUl : (swM (madeM rx 5 false)).2.length = (madeM rx 5 false).2.length := by simp [swM]
  have HUC : Hid (∀ W v b, Mach W v (madeM rx 5 false) → Blk W b #[.int .i64 1, .int .i64 2, .int .i64 2, .int .i64 1] 43 → Calls Try.prog 23 #[v, .slice (some ⟨b, 0, none⟩) 2 2, .slice none 0 0] W fun e w' => RatRes (swM (madeM rx 5 false)) 0 W e w') := fun W v b h1 h2 => by
    have := relabelP_any v _ (.slice none 0 0) _ [(1, 2), (2, 1)] [] W h1 (right_ok hfx) (chs_two h2) (by simp [okC]) (.inl ⟨rfl, rfl⟩) (by simp [okC])
    rw [u1, u2] at this
    exact this
  have ewr : wrdE ((wdL zv 4).map (fun n => 3 - n)) = 0 := wrd_12 (by rw [List.length_map]; omega) (fun n hn => by
    rw [List.mem_map] at hn
    obtain ⟨m, hm, rfl⟩ := hn
    rcases wdL_mem hm with rfl | rfl <;> omega)
  have hsw : (wdL zv 4).map swF = (wdL zv 4).map (fun n => 3 - n) := sw_word (fun n hn => wdL_mem hn)
  have HRV : Hid (∀ n ∈ wdL zv 4, n = 1 ∨ n = 2) := fun n hn => wdL_mem hn
  have HCx : Hid (∀ W v s t, Mach W v (madeM rx 5 false) → Nums W s (wdL zv 4) → Nums W t (wdL zt 4) → Calls Try.prog 12 #[v, s, t] W fun e w' => ∃ n : Int, e = .returned (.int .i64 n) ∧ CstIs (Costs (madeM rx 5 false) (wdL zv 4) (wdL zt 4)) n ∧ Below W.heap.size W w') := fun W v s t h1 h2 h3 => cost_any v s t _ _ _ W h1 (right_ok hfx) hfx hcx h2 h3 ewv ewt
  have HCu : Hid (∀ W v s t, Mach W v (swM (madeM rx 5 false)) → Nums W s ((wdL zv 4).map (fun n => 3 - n)) → Nums W t (wdL zt 4) → Calls Try.prog 12 #[v, s, t] W fun e w' => ∃ n : Int, e = .returned (.int .i64 n) ∧ CstIs (Costs (swM (madeM rx 5 false)) ((wdL zv 4).map (fun n => 3 - n)) (wdL zt 4)) n ∧ Below W.heap.size W w') := fun W v s t h1 h2 h3 => cost_any v s t _ _ _ W h1 (right_ok u3) u3 (sw_cheap hcx) h2 h3 ewr ewt
  have HFC : Hid (∀ a u, CstIs (Costs (madeM rx 5 false) (wdL zv 4) (wdL zt 4)) a → CstIs (Costs (swM (madeM rx 5 false)) ((wdL zv 4).map (fun n => 3 - n)) (wdL zt 4)) u → u = a) := fun a u h1 h3 => h3.eq h1 (fun c => by rw [← hsw]; exact costs_sw _ _ _ c)
  clear hfx hcx u1 u2 u3 ewv ewt ewr hsw lwt hlx hax hpx
  generalize swM (madeM rx 5 false) = U at *
  generalize (madeM rx 5 false) = Mx at *
  generalize wdL zv 4 = Xv at *
  generalize wdL zt 4 = Xt at *
  obtain ⟨avz, cvz, rfl, _⟩ := HZv.out.get
  obtain ⟨atz, ctz, rfl, _⟩ := HZt.out.get
  have t4 : ((U.2.length : Int) == (Mx.2.length : Int)) = true := by simp [hUl]
  have HB0 : Hid (∀ o1, Below w.heap.size w (w.alloc o1)) := fun o1 => (Below.refl _ _).alloc (Nat.le_refl _) _
  have HUL := hidP hUl
  clear hUl
  obtain ⟨i0, hi0, hz0, hz1, hz2⟩ := info_parts infoIntU
  go_enter Try.func8, Try.ntmps8
  go_wp2_with (first
    | (go_at_call 9; (with_reducible refine (HEx.out _ _ (HIx.out.later (HB0.out _) (Nat.le_refl _)) HOKx.out HWFx.out).mono ?_); rintro e w1 ⟨v1, rfl, hm, hb⟩; have HMx : Hid (Mach w1 v1 (Mx)) := hm; obtain ⟨vsx, rfl, hSx⟩ := hm; obtain ⟨ax, cx, rfl⟩ := hSx.sl; clear hSx; obtain ⟨s1, bb0, hb1⟩ := boxed hb (by simp); have KX1 := hidP bb0; clear bb0; have HB1 := hidP hb1; have qX0 := (KX1.out.alloc (.cells #[.int .i64 Mx.1, .slice ax Mx.2.length cx] 28)).cell 0 (v := .int .i64 rx.1) rfl; have qX1 := (KX1.out.alloc (.cells #[.int .i64 Mx.1, .slice ax Mx.2.length cx] 28)).cell 1 (v := .slice a0x rx.2.length c0x) rfl; clear hb hb1)
    | (go_at_call 23; (with_reducible refine (HUC.out _ _ _ (HMx.out.later (((Below.refl _ _).alloc (Nat.le_refl _) _).alloc (by simp) _) (Nat.le_refl _)) (blk2b _ _ _ _ _)).mono ?_); rintro e w2 ⟨v2, rfl, hm, hb⟩; have HMu : Hid (Mach w2 v2 (U)) := hm; obtain ⟨vsu, rfl, hSu⟩ := hm; obtain ⟨au, cu, rfl⟩ := hSu.sl; clear hSu; obtain ⟨s2, bb0, bb1, hb2⟩ := boxedTwo hb (by simp); have KVx2 := hidP bb0; have KCh2 := hidP bb1; clear bb0 bb1; have HB2 := hidP (HB1.out.trans (hb2.mono HB1.out.size)); have KX2 := hidP (KX1.out.below hb2 KX1.out.lt); have Hx2 := hidP hb2; have qX0 := (KX2.out.alloc (.cells #[.int .i64 U.1, .slice au U.2.length cu] 28)).cell 0 (v := .int .i64 rx.1) rfl; have qX1 := (KX2.out.alloc (.cells #[.int .i64 U.1, .slice au U.2.length cu] 28)).cell 1 (v := .slice a0x rx.2.length c0x) rfl; have qVx0 := (KVx2.out.alloc (.cells #[.int .i64 U.1, .slice au U.2.length cu] 28)).cell 0 (v := .int .i64 Mx.1) rfl; have qVx1 := (KVx2.out.alloc (.cells #[.int .i64 U.1, .slice au U.2.length cu] 28)).cell 1 (v := .slice ax Mx.2.length cx) rfl; have qCh0 := (KCh2.out.alloc (.cells #[.int .i64 U.1, .slice au U.2.length cu] 28)).cell 0 (v := .int .i64 1) rfl; have qCh1 := (KCh2.out.alloc (.cells #[.int .i64 U.1, .slice au U.2.length cu] 28)).cell 1 (v := .int .i64 2) rfl; have qCh2 := (KCh2.out.alloc (.cells #[.int .i64 U.1, .slice au U.2.length cu] 28)).cell 2 (v := .int .i64 2) rfl; have qCh3 := (KCh2.out.alloc (.cells #[.int .i64 U.1, .slice au U.2.length cu] 28)).cell 3 (v := .int .i64 1) rfl; clear hb hb2)
    | (go_at_call 11; (with_reducible refine (HWDv.out _ _ (HZv.out.later (HB2.out.alloc HB2.out.size _) (Nat.le_refl _))).mono ?_); rintro e w3 ⟨v3, rfl, hn, hb⟩; have HNv : Hid (Nums w3 v3 (Xv)) := hn; obtain ⟨awv, cwv, rfl, _⟩ := hn.get; obtain ⟨s3, bb0, hb3⟩ := boxed hb (by simp); have KVu3 := hidP bb0; clear bb0; have HB3 := hidP (HB2.out.trans (hb3.mono HB2.out.size)); have KX3 := hidP (KX2.out.below hb3 KX2.out.lt); have KVx3 := hidP (KVx2.out.below hb3 KVx2.out.lt); have KCh3 := hidP (KCh2.out.below hb3 KCh2.out.lt); have Hx3 := hidP (Hx2.out.trans (hb3.mono Hx2.out.size)); have Hu3 := hidP hb3; have qX0 := KX3.out.cell 0 (v := .int .i64 rx.1) rfl; have qX1 := KX3.out.cell 1 (v := .slice a0x rx.2.length c0x) rfl; have qVx0 := KVx3.out.cell 0 (v := .int .i64 Mx.1) rfl; have qVx1 := KVx3.out.cell 1 (v := .slice ax Mx.2.length cx) rfl; have qCh0 := KCh3.out.cell 0 (v := .int .i64 1) rfl; have qCh1 := KCh3.out.cell 1 (v := .int .i64 2) rfl; have qCh2 := KCh3.out.cell 2 (v := .int .i64 2) rfl; have qCh3 := KCh3.out.cell 3 (v := .int .i64 1) rfl; have qVu0 := KVu3.out.cell 0 (v := .int .i64 U.1) rfl; have qVu1 := KVu3.out.cell 1 (v := .slice au U.2.length cu) rfl; clear hb hb3)
    | (go_at_call 11; (with_reducible refine (HWDt.out _ _ (HZt.out.later HB3.out (Nat.le_refl _))).mono ?_); rintro e w4 ⟨v4, rfl, hn, hb⟩; have HNt : Hid (Nums w4 v4 (Xt)) := hn; obtain ⟨awt, cwt, rfl, _⟩ := hn.get; have hb4 := hb; have HB4 := hidP (HB3.out.trans (hb4.mono HB3.out.size)); have KX4 := hidP (KX3.out.below hb4 KX3.out.lt); have KVx4 := hidP (KVx3.out.below hb4 KVx3.out.lt); have KCh4 := hidP (KCh3.out.below hb4 KCh3.out.lt); have KVu4 := hidP (KVu3.out.below hb4 KVu3.out.lt); have Hx4 := hidP (Hx3.out.trans (hb4.mono Hx3.out.size)); have Hu4 := hidP (Hu3.out.trans (hb4.mono Hu3.out.size)); have Hv4 := hidP hb4; have qX0 := KX4.out.cell 0 (v := .int .i64 rx.1) rfl; have qX1 := KX4.out.cell 1 (v := .slice a0x rx.2.length c0x) rfl; have qVx0 := KVx4.out.cell 0 (v := .int .i64 Mx.1) rfl; have qVx1 := KVx4.out.cell 1 (v := .slice ax Mx.2.length cx) rfl; have qCh0 := KCh4.out.cell 0 (v := .int .i64 1) rfl; have qCh1 := KCh4.out.cell 1 (v := .int .i64 2) rfl; have qCh2 := KCh4.out.cell 2 (v := .int .i64 2) rfl; have qCh3 := KCh4.out.cell 3 (v := .int .i64 1) rfl; have qVu0 := KVu4.out.cell 0 (v := .int .i64 U.1) rfl; have qVu1 := KVu4.out.cell 1 (v := .slice au U.2.length cu) rfl; clear hb hb4)
    | (go_at_call 12; (with_reducible refine (HCx.out _ _ _ _ (HMx.out.later Hx4.out (Nat.le_refl _)) (HNv.out.later Hv4.out (Nat.le_refl _)) (HNt.out.later (Below.refl _ _) (Nat.le_refl _))).mono ?_); rintro e w5 ⟨nx, rfl, hq, hb⟩; have hb5 := hb; have HB5 := hidP (HB4.out.trans (hb5.mono HB4.out.size)); have KX5 := hidP (KX4.out.below hb5 KX4.out.lt); have KVx5 := hidP (KVx4.out.below hb5 KVx4.out.lt); have KCh5 := hidP (KCh4.out.below hb5 KCh4.out.lt); have KVu5 := hidP (KVu4.out.below hb5 KVu4.out.lt); have Hx5 := hidP (Hx4.out.trans (hb5.mono Hx4.out.size)); have Hu5 := hidP (Hu4.out.trans (hb5.mono Hu4.out.size)); have Hv5 := hidP (Hv4.out.trans (hb5.mono Hv4.out.size)); have Ht5 := hidP hb5; have qX0 := KX5.out.cell 0 (v := .int .i64 rx.1) rfl; have qX1 := KX5.out.cell 1 (v := .slice a0x rx.2.length c0x) rfl; have qVx0 := KVx5.out.cell 0 (v := .int .i64 Mx.1) rfl; have qVx1 := KVx5.out.cell 1 (v := .slice ax Mx.2.length cx) rfl; have qCh0 := KCh5.out.cell 0 (v := .int .i64 1) rfl; have qCh1 := KCh5.out.cell 1 (v := .int .i64 2) rfl; have qCh2 := KCh5.out.cell 2 (v := .int .i64 2) rfl; have qCh3 := KCh5.out.cell 3 (v := .int .i64 1) rfl; have qVu0 := KVu5.out.cell 0 (v := .int .i64 U.1) rfl; have qVu1 := KVu5.out.cell 1 (v := .slice au U.2.length cu) rfl; have HQx := hidP hq; have nnx := hq.nonneg; clear hq; clear hb hb5))
  obtain ⟨bw, hbw, HCV⟩ : ∃ _ : Unit, True ∧ Hid (∀ j, j < Xv.length → ∃ b off, awv = some ⟨b, off, none⟩ ∧ b < w5.heap.size ∧ w5.cell? ⟨b, off + j, none⟩ = some (.int .i64 (el Xv j))) := by
    obtain ⟨a', c', e', hc'⟩ := (HNv.out.later Hv5.out (Nat.le_refl _)).get
    injection e' with e1 e2 e3
    subst e1
    exact ⟨(), trivial, hc'⟩
  go_loopw [14, 15] (fun s5 i wr => ∃ (j : Nat) (vr : Value), j ≤ Xv.length ∧ vr = s5 ∧ i = .int .i64 j ∧ Hid (wr.ownsRow w5.heap.size 3 1 vr j (((Xv.take j).map (fun n => 3 - n)).flatMap encI1)) ∧ Hid (Below w5.heap.size w5 wr)) (fun _ i _ => Xv.length - (intOf i).toNat)
  case atStart => exact ⟨0, _, Nat.zero_le _, rfl, rfl, World.ownsRow_nil _ _ _ _, Below.refl _ _⟩
  case round =>
    clear qX0 qX1 qVx0 qVx1 qVu0 qVu1
    obtain ⟨j, vr, hj, rfl, rfl, hrw, hb⟩ := hrel
    have hbs := hb.out.size
    by_cases hjL : j < Xv.length
    · have hj1 : (j : Int) < (Xv.length : Int) := by omega
      have hj0 : (0 : Int) ≤ (j : Int) := by omega
      obtain ⟨b3, off3, rfl, hb3l, e0⟩ := HCV.out j hjL
      have e0 := (hb.out.cell (p := ⟨b3, off3 + j, none⟩) hb3l).trans e0
      have HST : Hid ((Xv.take (j + 1)).map (fun n => 3 - n) = (Xv.take j).map (fun n => 3 - n) ++ [3 - el Xv j]) := by
        show _ = _
        rw [take_el hjL, List.map_append]
        rfl
      have hr12 := HRV.out _ (el_mem hjL)
      generalize el Xv j = x at *
      have hw3 : IntKind.i64.wrap (3 - x) = 3 - x := wrapI (by omega) (by omega)
      have hwj : IntKind.i64.wrap ((j : Int) + 1) = (j : Int) + 1 := wrapI (by omega) (by omega)
      clear hr12
      generalize (Xv.take j).map (fun n => 3 - n) = tl at *
      have HD := hrw
      clear hrw
      go_wp2_with (first
        | (at_builtin; refine wpList_append_rows encI1_len (by decide) encI1_one rfl _ _ 25 rfl w5.heap.size 3 i0 _ 8 Try.underlying25 hi0 hz0 hz1 hz2 rfl _ j (tl.flatMap encI1) rfl (HD.out.alloc _) _ [3 - x] rfl (oneRow (enc := encI1) wr (3 - x) rfl 3) (by simp; unfold maxLen; omega) (by simp; omega) (by simp; omega) ?_; intro v4 w4 ho4 hg4; have HO4 := hidP ho4; have HB4 : Hid (Below w5.heap.size w5 w4) := (hb.out.alloc hbs _).grown hg4 (by simp; omega) (fun k hk => (HD.out.lt k hk).1); clear ho4 hg4))
      go_roundw
      case rel => exact ⟨j + 1, _, by omega, rfl, by go_num, by rw [HST.out, List.flatMap_append]; exact HO4.out, HB4⟩
      case measure => simp [intOf]; omega
    · have hj1 : ¬ (j : Int) < (Xv.length : Int) := by omega
      obtain rfl : j = Xv.length := by omega
      have HNR : Hid (Nums wr vr (Xv.map (fun n => 3 - n))) := by
        have h9 := hrw.out
        rw [List.take_length] at h9
        exact Row.ofOwn encI1_len h9 (by simp)
      obtain ⟨ar, cr, rfl, _⟩ := HNR.out.get
      have KUr := hidP (KVu5.out.below hb.out KVu5.out.lt)
      have KXr := hidP (KVx5.out.below hb.out KVx5.out.lt)
      have z0 := KUr.out.cell 0 (v := .int .i64 U.1) rfl
      have z1 := KUr.out.cell 1 (v := .slice au U.2.length cu) rfl
      have z2 := KXr.out.cell 1 (v := .slice ax Mx.2.length cx) rfl
      generalize Xv.map (fun n => 3 - n) = Rv at *
      go_wp2_with (first
        | (go_at_call 12; (with_reducible refine (HCu.out _ _ _ _ (HMu.out.later (Hu5.out.trans (hb.out.mono Hu5.out.size)) (Nat.le_refl _)) HNR.out (HNt.out.later (Ht5.out.trans (hb.out.mono Ht5.out.size)) (Nat.le_refl _))).mono ?_); rintro e w8 ⟨nu, rfl, hq, hb8⟩; have t5 : (nu == nx) = true := (by simpa using HFC.out _ _ HQx.out hq); have HB8 : Hid (Below w5.heap.size w5 w8) := hb.out.trans (hb8.mono hb.out.size); clear hq hb8))
      go_ret
      exact ⟨rfl, HB5.out.trans (HB8.out.mono HB5.out.size)⟩
theorem walk (vx : Value) (rx : Rw) (a1 : Option Addr) (len1 cap1 : Nat) (z1 : List Int) (a2 : Option Addr) (len2 cap2 : Nat) (z2 : List Int) (w : World) (hx : RawV w vx rx ∧ okR rx ∧ wfR rx) (w1 : IsRow .i64 w a1 len1 cap1 z1 ∧ cap1 * 8 ≤ 140737488351232) (w2 : IsRow .i64 w a2 len2 cap2 z2 ∧ cap2 * 8 ≤ 140737488351232) :
    Calls Try.prog 8 #[vx, .slice a1 len1 cap1, .slice a2 len2 cap2] w fun e w' => e = .returned (.bool true) ∧ Below w.heap.size w w' := by
  obtain ⟨p1, _, _⟩ := row_nums w1.1
  obtain ⟨p2, _, _⟩ := row_nums w2.1
  exact core vx rx _ _ _ _ w hx p1 (row_wf w1.1) p2 (row_wf w2.1)

set_option maxRecDepth 100000 in
theorem lifted (os : Os) (started : os.Started) (H : Type) (enc : TypeId × Value → H) :
    ReturnsInHanded {} Try.checked os 8 .any (Rows.weighRelabelSpec.pre6 enc Try.prog Try.f8 Rows.weighRelabelRow.domain false) (Rows.weighRelabelSpec.post enc Try.prog Try.f8 false true false false) := by
  refine returnsInHanded_of_change_sized (C := Try.checked) own started (by kernel_rfl) Try.func8
    (ChangeSpec.witness6 (enc := enc) (C := Try.checked) false ⟨#[], #[.agg #[.int .i64 0, .slice none 0 0], .slice none 0 0, .slice none 0 0], []⟩ 8 (by kernel_rfl) (by kernel_rfl) (by kernel_rfl) (by kernel_rfl)) ?_
  intro W base args ds gs before hval0 hW hcnd hsz0 _
  have hsz : (DataW.weightsEach Try.prog (Try.f8.params.toList ++ Rows.weighRelabelSpec.plain.varTypes Try.prog) (ds ++ gs)).all (· ≤ reachBytes) = true := hsz0
  have hval : ∀ (j : Nat) t v, Try.f8.params[j]? = some t → args[j]? = some v → Value.okWide Try.prog W .any base t v := hval0
  clear hval0 hsz0
  have hW' := hW
  obtain ⟨p, q, hA0, hV, rfl, hfz, hnd⟩ := hW
  have hA : DataW.TrodAll enc Try.prog W 0 (fun _ => true) true Try.f8.params.toList args.toList ds p := hA0
  rw [Try.params8] at hA hval hsz
  obtain ⟨v0, vs0, d0, ds0, p0, q0, hargs, rfl, rfl, h0, r0⟩ := trodAll_cons hA
  obtain ⟨v1, vs1, d1, ds1, p1, q1, rfl, rfl, rfl, h1, r1⟩ := trodAll_cons r0
  obtain ⟨v2, vs2, d2, ds2, p2, q2, rfl, rfl, rfl, h2, r2⟩ := trodAll_cons r1
  obtain ⟨rfl, rfl, rfl⟩ := trodAll_nil r2
  obtain rfl : args = #[v0, v1, v2] := by cases args; simp_all
  obtain ⟨rfl, rfl⟩ := trodVars_none hV
  have k0 := h0
  have lt0 : ∀ x ∈ p0, x.block < W.heap.size := by obtain ⟨m, hm⟩ := k0; exact DataW.trod_lt m _ _ _ hm
  obtain ⟨z0, w0⟩ : ∃ m : Rw, RawV W v0 m ∧ okR m ∧ wfR m := by
    obtain ⟨c0, c1, y0, y1, n, rfl, hd, hp, t0, t1⟩ := Go.Joins.open_agg2 Try.underlying24 (by kernel_rfl) (by kernel_rfl) (hval 0 24 v0 rfl rfl) h0
    subst hd
    exact open_raw t0 t1 ((Fits.arg hsz (j := 0) rfl rfl).field Try.underlying24 (f := 1) rfl rfl)
  obtain ⟨a1, len1, cap1, rfl⟩ := okWide_slice Try.underlying25 (hval 1 25 v1 rfl rfl)
  have k1 := h1
  have lt1 : ∀ x ∈ p1, x.block < W.heap.size := by obtain ⟨m, hm⟩ := k1; exact DataW.trod_lt m _ _ _ hm
  obtain ⟨z1, w1⟩ : ∃ zs, IsRow .i64 W a1 len1 cap1 zs ∧ cap1 * 8 ≤ 140737488351232 := by
    obtain ⟨fuel, hf⟩ := h1
    rcases open_ints Try.underlying25 Try.underlying3 (by kernel_rfl) hf with ⟨hcs, _⟩ | ⟨x, l, c, zs, hcs, _, hl, hm, hz, hx, hcell, hwz⟩
    · simp [Value.cells] at hcs
      obtain ⟨rfl, rfl, rfl⟩ := hcs
      exact ⟨[], .inl ⟨rfl, rfl, rfl, rfl⟩, by omega⟩
    · have hd := congrArg Prod.fst hx
      have hsw := sized_slice hsz (j := 1) (t := 25) (e := 3) rfl (congrArg some hd) Try.underlying25
      have hby : Try.prog.bytesOf 3 = 8 := by kernel_rfl
      rw [hby] at hsw
      simp [Value.cells] at hcs
      obtain ⟨rfl, rfl, rfl⟩ := hcs
      have hz' : zs.length = cap1 := by simpa using hz
      simp only [lits, List.length_map, List.length_take, List.length_drop, reachBytes] at hsw
      exact ⟨zs, .inr ⟨_, rfl, hl, hm, hz', hcell, hwz⟩, by omega⟩
  obtain ⟨a2, len2, cap2, rfl⟩ := okWide_slice Try.underlying25 (hval 2 25 v2 rfl rfl)
  have k2 := h2
  have lt2 : ∀ x ∈ p2, x.block < W.heap.size := by obtain ⟨m, hm⟩ := k2; exact DataW.trod_lt m _ _ _ hm
  obtain ⟨z2, w2⟩ : ∃ zs, IsRow .i64 W a2 len2 cap2 zs ∧ cap2 * 8 ≤ 140737488351232 := by
    obtain ⟨fuel, hf⟩ := h2
    rcases open_ints Try.underlying25 Try.underlying3 (by kernel_rfl) hf with ⟨hcs, _⟩ | ⟨x, l, c, zs, hcs, _, hl, hm, hz, hx, hcell, hwz⟩
    · simp [Value.cells] at hcs
      obtain ⟨rfl, rfl, rfl⟩ := hcs
      exact ⟨[], .inl ⟨rfl, rfl, rfl, rfl⟩, by omega⟩
    · have hd := congrArg Prod.fst hx
      have hsw := sized_slice hsz (j := 2) (t := 25) (e := 3) rfl (congrArg some hd) Try.underlying25
      have hby : Try.prog.bytesOf 3 = 8 := by kernel_rfl
      rw [hby] at hsw
      simp [Value.cells] at hcs
      obtain ⟨rfl, rfl, rfl⟩ := hcs
      have hz' : zs.length = cap2 := by simpa using hz
      simp only [lits, List.length_map, List.length_take, List.length_drop, reachBytes] at hsw
      exact ⟨zs, .inr ⟨_, rfl, hl, hm, hz', hcell, hwz⟩, by omega⟩
  refine (walk v0 z0 a1 len1 cap1 z1 a2 len2 cap2 z2 W w0 w1 w2).mono fun e W' ⟨he, bel⟩ => ?_
  subst he
  exact ⟨_, rfl, _, _, _, [], _, [], hW', trodAll_mk1 (shut_bool Try.underlying4 _), (trodAll_cons_mk (Below.trod laidOut (by kernel_rfl) (of_decide_eq_true (by kernel_rfl)) k0 bel lt0) (trodAll_cons_mk (Below.trod laidOut (by kernel_rfl) (of_decide_eq_true (by kernel_rfl)) k1 bel lt1) (trodAll_cons_mk (Below.trod laidOut (by kernel_rfl) (of_decide_eq_true (by kernel_rfl)) k2 bel lt2) trodAll_mk0))), rfl, bel.frame _, fun h => by cases h⟩
end Go.Proofs.Ytpfcljhbamnghab.weighRelabel
namespace Go.Proofs.Ytpfcljhbamnghab
theorem weighRelabel_holds : Rows.WeighRelabelSaid :=
  OpenClaim.holds_of_wide 8 Try.f8 rfl rfl rfl rfl rfl rfl rfl ⟨rfl, rfl, rfl, rfl, rfl⟩ rfl rfl rfl rfl rfl (by kernel_rfl) Try.func8 (by kernel_rfl)
    (of_decide_eq_true (by kernel_rfl)) (by unfold Func.isWrapper; first | (rw [if_pos (by decide +kernel)]; kernel_rfl) | (rw [if_neg (by decide +kernel)]; exact ⟨rfl, rfl⟩))
    (fun os started H enc _ => weighRelabel.lifted os started H enc)
#print axioms weighRelabel_holds
end Go.Proofs.Ytpfcljhbamnghab
