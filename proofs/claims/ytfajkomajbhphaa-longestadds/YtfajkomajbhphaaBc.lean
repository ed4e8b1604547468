/- The program's builder of machines: ends that lead on, what is built, two machines checked. -/
import Derived.Test.YtfajkomajbhphaaJ10d
import Derived.Test.YtfajkomajbhphaaJ10e
namespace Go.Proofs.Ytfajkomajbhphaa.Wt
open Go.ChangeShapes Go.WideShapes Go.ChangeAt Go.RowKit
open Go.Proofs.Ytfajkomajbhphaa.Pl
set_option linter.unusedVariables false
set_option linter.unusedSimpArgs false
/-- A state whose end leads on. -/
def ledS (t : Int) (s : St) : St := if s.1 = 1000000001 then s else (1000000001, s.2 ++ if t = -1 then [] else [(0, 0, s.1, t)])
/-- The states from a on, up to the one ahead of q, lead on. -/
def ledL (t : Int) (a q : Nat) (l : List St) : List St := l.mapIdx fun i s => if a ≤ i ∧ i < q then ledS t s else s
theorem ledL_len (t : Int) (a q : Nat) (l : List St) : (ledL t a q l).length = l.length := by simp [ledL]
theorem ledL_el {t : Int} {a q : Nat} {l : List St} {j : Nat} (hj : j < l.length) : el (ledL t a q l) j = if a ≤ j ∧ j < q then ledS t (el l j) else el l j := by
  rw [el_get (by rw [ledL_len]; exact hj), el_get hj]
  simp [ledL]
theorem ledL_start (t : Int) (a : Nat) (l : List St) : ledL t a a l = l := el_ext (ledL_len _ _ _ _) fun j hj => by
  rw [ledL_len] at hj
  rw [ledL_el hj, if_neg (by omega)]
theorem ledL_step {t : Int} {a q : Nat} {l : List St} (ha : a ≤ q) (hq : q < l.length) : ledL t a (q + 1) l = (ledL t a q l).set q (ledS t (el l q)) := el_ext (by rw [List.length_set, ledL_len, ledL_len]) fun j hj => by
  rw [ledL_len] at hj
  rw [ledL_el hj, Pl.el_set (by rw [ledL_len]; exact hj), ledL_el hj]
  by_cases e : q = j
  · rw [if_pos e, ← e, if_pos (by omega)]
  · rw [if_neg e]
    by_cases h : a ≤ j ∧ j < q
    · rw [if_pos h, if_pos (by omega)]
    · rw [if_neg h, if_neg (by omega)]
theorem ledL_here {t : Int} {a q : Nat} {l : List St} (hq : q < l.length) : el (ledL t a q l) q = el l q := by rw [ledL_el hq, if_neg (by omega)]
theorem ledL_mid (t : Int) (x y z : List St) : ledL t x.length (x.length + y.length) (x ++ y ++ z) = x ++ y.map (ledS t) ++ z := el_ext (by rw [ledL_len]; simp) fun j hj => by
  rw [ledL_len] at hj
  rw [ledL_el hj]
  simp only [List.length_append] at hj
  by_cases h1 : j < x.length
  · rw [if_neg (by omega), List.append_assoc, List.append_assoc, el_left h1, el_left h1]
  · by_cases h2 : j < x.length + y.length
    · have e1 : el (x ++ y ++ z) j = el y (j - x.length) := by rw [el_left (l := x ++ y) (by simp; omega), el_right (by omega)]
      have e2 : el (x ++ y.map (ledS t) ++ z) j = el (y.map (ledS t)) (j - x.length) := by rw [el_left (l := x ++ y.map (ledS t)) (by simp; omega), el_right (by omega)]
      rw [if_pos (by omega), e1, e2, el_map (by omega)]
    · rw [if_neg (by omega), el_right (l := x ++ y) (by simp; omega), el_right (l := x ++ y.map (ledS t)) (by simp; omega)]
      simp
def HeldF (b : Nat) (vs : Value) (g o : Nat) (x : Value) (w : World) : Prop := w.cell? ⟨b, 1, none⟩ = some vs ∧ w.cell? ⟨g, o, none⟩ = some x
set_option maxRecDepth 100000 in
set_option maxHeartbeats 1600000 in
/-- b.leadOn(first, behind, t). -/
theorem leadOn_any (b base a k : Nat) (z t : Int) (l : List St) (W : World) (h : Bui W 49 base b z l) (hb : b < base) (hbW : base ≤ W.heap.size) (hak : a ≤ k) (hkl : k ≤ l.length) (hll : l.length ≤ 1000) (hal : ∀ j, j < l.length → (el l j).2.length ≤ 1000) :
    Calls Try.prog 32 #[.pointer (some ⟨b, 0, none⟩), .int .i64 a, .int .i64 k, .int .i64 t] W fun e W' => e = .returned (.tuple #[]) ∧ Bui W' 49 base b z (ledL t a k l) ∧ Below b W W' ∧ Kept (some b) W W' := by
  have H := hidP h
  have HAL := hidP hal
  have HS : Hid (ledL t a a l = l) := ledL_start t a l
  have HN : Hid (∀ q, a ≤ q → q < l.length → ledL t a (q + 1) l = (ledL t a q l).set q (ledS t (el l q))) := fun q h1 h2 => ledL_step h1 h2
  have HH : Hid (∀ q, q < l.length → el (ledL t a q l) q = el l q) := fun q h2 => ledL_here h2
  have HL : Hid (∀ q, (ledL t a q l).length = l.length) := fun q => ledL_len _ _ _ _
  obtain ⟨TT, hTT⟩ : ∃ TT : Nat → List St, ∀ j, ledL t a j l = TT j := ⟨_, fun _ => rfl⟩
  simp only [hTT] at HS HN HH HL
  rw [hTT]
  clear hTT h hal
  go_enter Try.func32, Try.ntmps32
  go_wp2
  go_loopw [8] (fun i wr => ∃ (q : Nat), a ≤ q ∧ q ≤ k ∧ i = .int .i64 q ∧ Hid (Bui wr 49 base b z (TT q)) ∧ Hid (Below b W wr) ∧ Hid (Kept (some b) W wr)) (fun i _ => k - (intOf i).toNat)
  case atStart => exact ⟨a, Nat.le_refl _, hak, rfl, by rw [HS.out]; exact H, Below.refl _ _, Kept.refl _ _⟩
  case round =>
    obtain ⟨q, haq, hqk, rfl, hB, hbl, hkp⟩ := hrel
    have hsr := hbl.out.size
    by_cases hq : q < k
    · have hq0 : (0 : Int) ≤ (q : Int) := by omega
      have hq1 : (q : Int) < (k : Int) := by omega
      have HNq := hidP (HN.out q haq (by omega))
      have HHq := hidP (HH.out q (by omega))
      have HLq := hidP (HL.out q)
      have hal := HAL.out q (by omega)
      generalize TT q = Lq at *
      generalize el l q = s at *
      have hB' := hB.out
      obtain ⟨vo, h1, h2⟩ := hB'
      obtain ⟨g, cap, hv, hbg, hgl, hc, hf, _, _⟩ := h2.finAt q (by rw [HLq.out]; omega) 0
      subst hv
      rw [HHq.out] at hc
      rw [HLq.out] at h1 h2
      have m1 := h1.cell 1 (v := .slice (some ⟨g, 0, none⟩) l.length cap) rfl
      have hql : (q : Int) < (l.length : Int) := by omega
      have hwq : IntKind.i64.wrap ((q : Int) + 1) = (q : Int) + 1 := wrapI (by omega) (by omega)
      clear h1 h2
      by_cases hfin : s.1 = 1000000001
      · have HQ : Hid (TT (q + 1) = Lq) := by
          show _ = _
          rw [HNq.out]
          exact set_same (by rw [HLq.out]; omega) (by rw [HHq.out]; unfold ledS; rw [if_pos hfin])
        have hf' : (s.1 != 1000000001) = false := by simpa using hfin
        rw [hfin] at hc
        clear hf' hfin
        go_wp2
        go_roundw
        case rel => exact ⟨q + 1, by omega, by omega, by go_num, by rw [HQ.out]; exact hB, hbl, hkp⟩
        case measure => simp [intOf]; omega
      · have HLK : Hid (∀ W2, Bui W2 49 base b z Lq → base ≤ W2.heap.size → Calls Try.prog 25 #[.pointer (some ⟨b, 0, none⟩), .int .i64 q, .int .i64 t, .int .i64 s.1] W2 fun e W' => e = .returned (.tuple #[]) ∧ Bui W' 49 base b z (Lq.set q (lnkS t s.1 s)) ∧ Below b W2 W' ∧ Kept (some b) W2 W') := fun W2 hW hs => by
          have := link_any b base q z t s.1 Lq W2 hW hb hs (by rw [HLq.out]; omega) (by rw [HHq.out]; omega) (by rw [HLq.out]; omega)
          rw [HHq.out] at this
          exact this
        have HQ : Hid ((Lq.set q (lnkS t s.1 s)).set q (1000000001, (lnkS t s.1 s).2) = TT (q + 1)) := by
          show _ = _
          rw [HNq.out, List.set_set]
          unfold ledS lnkS
          rw [if_neg hfin]
        have hf' : (s.1 != 1000000001) = true := bne_iff_ne.2 hfin
        obtain ⟨fin, ar⟩ := s
        simp only at hc HLK HQ hf' hfin
        clear hfin
        have hbW' : base ≤ wr.heap.size := by omega
        go_wp2_with (first
          | (go_at_call 25; (with_reducible refine (HLK.out _ hB.out hbW').mono ?_); rintro e w1 ⟨rfl, hB1, hb1, hk1⟩; have HB1 := hidP hB1; obtain ⟨v1, k1, k2⟩ := hB1; obtain ⟨g1, cap1, hv1, hbg1, hgl1, hc1, hf1, ho1, hk2⟩ := k2.finAt q (by rw [List.length_set, HLq.out]; omega) 1000000001; rw [List.length_set, HLq.out] at hv1; subst hv1; rw [Pl.el_set (by rw [HLq.out]; omega), if_pos rfl] at hc1 ho1; rw [HQ.out] at ho1; have KB1 := hidP k1; have n1 := k1.cell 1 (v := .slice (some ⟨g1, 0, none⟩) l.length cap1) rfl; have HO1 := hidP ho1; have HK2 := hidP (hk1.trans (hk2.any _)); have HW1 := hidP hb1; clear k1 k2 ho1 hk1 hk2 hb1))
        go_roundw
        case rel => exact ⟨q + 1, by omega, by omega, by go_num, ⟨_, KB1.out.setO ⟨g1, q * 2, none⟩ _ (by show b ≠ g1; omega), HO1.out⟩, (hbl.out.trans HW1.out).setCell (p := ⟨g1, q * 2, none⟩) (by show b ≤ g1; omega) _, hkp.out.trans HK2.out⟩
        case measure => simp [intOf]; omega
    · have hnq : ¬ (q : Int) < (k : Int) := by omega
      obtain rfl : q = k := by omega
      go_wp2
      go_end0
      exact ⟨rfl, hB.out, hbl.out, hkp.out⟩
theorem res_built (tm : Array Value) (W : World) (R : Nat) (ec : Int) (x0 x1 : Value) (hB : Blk W R #[x0, x1] 24) (h2 : tm.getD 2 undef = .pointer (some ⟨R, 0, none⟩)) (h3 : tm.getD 3 undef = .int .i64 ec) : (results Try.f26 tm).run Try.prog W = .ok (.tuple #[.agg #[x0, x1], .int .i64 ec]) W := by
  have c0 := hB.cell 0 (v := x0) rfl
  have c1 := hB.cell 1 (v := x1) rfl
  simp only [Array.getD_eq_getD_getElem?] at h2 h3
  simp [results, Try.results26, go_sem, h2, h3, c0, c1]
/-- A machine of the call's own and an error are answered. -/
def BuiRes (base : Nat) (x : Mc) (ec : Int) (w : World) (e : Ending) (w' : World) : Prop := ∃ vs, e = .returned (.tuple #[.agg #[.int .i64 x.1, vs], .int .i64 ec]) ∧ OwnSts w' base vs x.2 ∧ Below w.heap.size w w'
theorem OwnSts.setB {w : World} {base : Nat} {v : Value} {l : List St} (h : OwnSts w base v l) {a : Addr} (ha : a.block < base) (u : Value) : OwnSts (w.setCell a u) base v l := by
  obtain ⟨vs, h1, h2, h3⟩ := h
  exact ⟨vs, ownsRow_setCell_below h1 ha u, h2, fun j hj => ⟨(h3 j hj).1, ownsRow_setCell_below (h3 j hj).2 ha u⟩⟩
theorem BuiRes.rat {base R : Nat} {x : Mc} {ec : Int} {w w1 : World} {vs : Value} (ho : OwnSts w1 base vs x.2) (hR : R < base) (hb : Below w.heap.size w w1) (hwR : w.heap.size ≤ R) : RatRes x ec w (.returned (.tuple #[.agg #[.int .i64 x.1, vs], .int .i64 ec])) ((w1.setCell ⟨R, 0, none⟩ (.int .i64 x.1)).setCell ⟨R, 1, none⟩ vs) :=
  ⟨_, rfl, ⟨vs, rfl, ((ho.setB (a := ⟨R, 0, none⟩) hR _).setB (a := ⟨R, 1, none⟩) hR _).sts⟩, (hb.setCell (p := ⟨R, 0, none⟩) hwR _).setCell (p := ⟨R, 1, none⟩) hwR _⟩
/-- b.built(). -/
theorem built_any (b base : Nat) (z : Int) (l : List St) (W : World) (h : Bui W 49 base b z l) (hbW : base ≤ W.heap.size) (hok : okM (z, l)) :
    Calls Try.prog 26 #[.pointer (some ⟨b, 0, none⟩)] W fun e W' => BuiRes base (if faultM (z, l) = 0 then (z, l) else (0, [])) (if faultM (z, l) = 0 then 0 else 5) W e W' := by
  obtain ⟨v, h1, h2⟩ := h
  have HM : Hid (Mach W (.agg #[.int .i64 z, v]) (z, l)) := ⟨_, rfl, h2.own.sts⟩
  have HB := hidP h1
  have HO := hidP h2.own
  obtain ⟨a, cap, hv⟩ := h2.sl
  subst hv
  have HK := hidP hok
  have c0 := h1.cell 0 (v := .int .i64 z) rfl
  have c1 := h1.cell 1 (v := .slice a l.length cap) rfl
  have hlt := h1.lt
  clear h1 h2 hok
  obtain ⟨r, hr⟩ : ∃ r, faultM (z, l) = r := ⟨_, rfl⟩
  have HR := hidP hr
  rw [hr]
  clear hr
  by_cases h0 : r = 0
  · have h0' : (r != 0) = false := by simpa using h0
    rw [if_pos h0, if_pos h0]
    clear h0
    go_enter Try.func26, Try.ntmps26
    go_wp2_with (first
      | (go_at_call 33; (with_reducible refine (coreCheck_any _ (z, l) _ (HM.out.later (B := W.heap.size) (by go_grown) (Nat.le_refl _)) HK.out r HR.out).mono ?_); rintro e w1 ⟨rfl, hb⟩; simp only [World.size_alloc] at hb; have KR := hidP ((Blk.made W _ 24).below hb (by omega)); have HB1 := hidP (((Below.refl W.heap.size W).alloc (Nat.le_refl _) _).trans (hb.mono (by omega))); have KB := hidP (HB.out.below HB1.out hlt); have e0 := KR.out.cell 0 (v := .int .i64 0) rfl; have e1 := KR.out.cell 1 (v := .slice none 0 0) rfl; have g0 := KR.out.fz 0; have g1 := KR.out.fz 1; have d0 := KB.out.cell 0 (v := .int .i64 z) rfl; have d1 := KB.out.cell 1 (v := .slice a l.length cap) rfl; clear hb))
    exact bodyPost_ret (res_built _ _ W.heap.size 0 _ _ ((KR.out.set 0 (.int .i64 z)).set 1 (.slice a l.length cap)) rfl rfl) rfl ⟨_, rfl, HO.out.laterB ((HB1.out.setCell (Nat.le_refl _) _).setCell (Nat.le_refl _) _), (HB1.out.setCell (Nat.le_refl _) _).setCell (Nat.le_refl _) _⟩
  · have h0' : (r != 0) = true := bne_iff_ne.2 h0
    rw [if_neg h0, if_neg h0]
    clear h0
    go_enter Try.func26, Try.ntmps26
    go_wp2_with (first
      | (go_at_call 33; (with_reducible refine (coreCheck_any _ (z, l) _ (HM.out.later (B := W.heap.size) (by go_grown) (Nat.le_refl _)) HK.out r HR.out).mono ?_); rintro e w1 ⟨rfl, hb⟩; simp only [World.size_alloc] at hb; have KR := hidP ((Blk.made W _ 24).below hb (by omega)); have HB1 := hidP (((Below.refl W.heap.size W).alloc (Nat.le_refl _) _).trans (hb.mono (by omega))); have e0 := KR.out.cell 0 (v := .int .i64 0) rfl; have e1 := KR.out.cell 1 (v := .slice none 0 0) rfl; have g0 := KR.out.fz 0; have g1 := KR.out.fz 1; clear hb))
    exact bodyPost_ret (res_built _ _ W.heap.size 5 _ _ ((KR.out.set 0 (.int .i64 0)).set 1 (.slice none 0 0)) rfl rfl) rfl ⟨_, rfl, OwnSts.nil _ _, (HB1.out.setCell (Nat.le_refl _) _).setCell (Nat.le_refl _) _⟩
theorem idx2_0 (a b c d : Value) (w : World) : (Instr.index 46 (.agg #[a, b, c, d]) (.int .i64 0)).run Try.prog w = .ok (.agg #[a, b]) w := by kernel_rfl
theorem idx2_1 (a b c d : Value) (w : World) : (Instr.index 46 (.agg #[a, b, c, d]) (.int .i64 1)).run Try.prog w = .ok (.agg #[c, d]) w := by kernel_rfl
set_option maxRecDepth 100000 in
/-- check(both). -/
theorem check2_any (za zb : Int) (aa ab : Option Addr) (ca cb : Nat) (la lb : List St) (w : World) (ha : Mach w (.agg #[.int .i64 za, .slice aa la.length ca]) (za, la)) (hoka : okM (za, la)) (hb : Mach w (.agg #[.int .i64 zb, .slice ab lb.length cb]) (zb, lb)) (hokb : okM (zb, lb)) :
    Calls Try.prog 22 #[.agg #[.int .i64 za, .slice aa la.length ca, .int .i64 zb, .slice ab lb.length cb]] w fun e w' => e = .returned (.int .i64 (if faultM (za, la) ≠ 0 then faultM (za, la) else faultM (zb, lb))) ∧ Below w.heap.size w w' := by
  have HA := hidP ha
  have HB := hidP hb
  have HKA := hidP hoka
  have HKB := hidP hokb
  obtain ⟨ra, hra⟩ : ∃ r, faultM (za, la) = r := ⟨_, rfl⟩
  obtain ⟨rb, hrb⟩ : ∃ r, faultM (zb, lb) = r := ⟨_, rfl⟩
  have HRA := hidP hra
  have HRB := hidP hrb
  rw [hra, hrb]
  clear hoka hokb ha hb hra hrb
  obtain ⟨r, hr⟩ : ∃ r, (if ra ≠ 0 then ra else rb) = r := ⟨_, rfl⟩
  have HRR := hidP hr
  rw [hr]
  clear hr
  generalize la.length = na at *
  generalize lb.length = nb at *
  go_enter Try.func22, Try.ntmps22
  go_wp2
  go_loopw [7] (fun i wr => ∃ (k : Int), 0 ≤ k ∧ k ≤ 2 ∧ i = .int .i64 k ∧ (1 ≤ k → ra = 0) ∧ (2 ≤ k → rb = 0) ∧ Hid (Below w.heap.size w wr)) (fun i _ => 2 - (intOf i).toNat)
  case atStart => exact ⟨0, by omega, by omega, rfl, by omega, by omega, hidP (by go_grown)⟩
  case round =>
    obtain ⟨k, hk0, hk, rfl, h1, h2, hb⟩ := hrel
    have i0 := idx2_0 (.int .i64 za) (.slice aa na ca) (.int .i64 zb) (.slice ab nb cb)
    have i1 := idx2_1 (.int .i64 za) (.slice aa na ca) (.int .i64 zb) (.slice ab nb cb)
    have hsr := hb.out.size
    rcases (show k = 0 ∨ k = 1 ∨ k = 2 by omega) with rfl | rfl | rfl
    · have HC : Hid (∀ W, Below w.heap.size w W → Calls Try.prog 33 #[.agg #[.int .i64 za, .slice aa na ca]] W fun e w' => e = .returned (.int .i64 ra) ∧ Below W.heap.size W w') := fun W hW => coreCheck_any _ (za, la) W (HA.out.later hW (Nat.le_refl _)) HKA.out ra HRA.out
      clear h1 h2
      by_cases h0 : ra = 0
      · have h0' : (ra != 0) = false := by simpa using h0
        have H0 := hidP h0
        clear h0
        go_wp2_with (first
          | (go_at_call 33; (with_reducible refine (HC.out _ (hb.out.alloc hsr _)).mono ?_); rintro e w1 ⟨rfl, hb1⟩; simp only [World.size_alloc] at hb1; have HB1 := hidP ((hb.out.alloc hsr _).trans (hb1.mono (by omega))); clear hb1))
        go_roundw
        case rel => exact ⟨1, by omega, by omega, by go_num, fun _ => H0.out, by omega, HB1⟩
        case measure => simp [intOf]
      · have h0' : (ra != 0) = true := bne_iff_ne.2 h0
        have HR : Hid (r = ra) := by show _ = _; rw [← HRR.out, if_pos h0]
        clear h0
        go_wp2_with (first
          | (go_at_call 33; (with_reducible refine (HC.out _ (hb.out.alloc hsr _)).mono ?_); rintro e w1 ⟨rfl, hb1⟩; simp only [World.size_alloc] at hb1; have HB1 := hidP ((hb.out.alloc hsr _).trans (hb1.mono (by omega))); clear hb1))
        go_ret
        exact ⟨by rw [HR.out]; rfl, HB1.out⟩
    · have HC : Hid (∀ W, Below w.heap.size w W → Calls Try.prog 33 #[.agg #[.int .i64 zb, .slice ab nb cb]] W fun e w' => e = .returned (.int .i64 rb) ∧ Below W.heap.size W w') := fun W hW => coreCheck_any _ (zb, lb) W (HB.out.later hW (Nat.le_refl _)) HKB.out rb HRB.out
      have HRA0 := hidP (h1 (by omega))
      have HR : Hid (r = rb) := by show _ = _; rw [← HRR.out, if_neg (by rw [HRA0.out]; simp)]
      clear h1 h2
      by_cases h0 : rb = 0
      · have h0' : (rb != 0) = false := by simpa using h0
        have H0 := hidP h0
        clear h0
        go_wp2_with (first
          | (go_at_call 33; (with_reducible refine (HC.out _ (hb.out.alloc hsr _)).mono ?_); rintro e w1 ⟨rfl, hb1⟩; simp only [World.size_alloc] at hb1; have HB1 := hidP ((hb.out.alloc hsr _).trans (hb1.mono (by omega))); clear hb1))
        go_roundw
        case rel => exact ⟨2, by omega, by omega, by go_num, fun _ => HRA0.out, fun _ => H0.out, HB1⟩
        case measure => simp [intOf]
      · have h0' : (rb != 0) = true := bne_iff_ne.2 h0
        clear h0
        go_wp2_with (first
          | (go_at_call 33; (with_reducible refine (HC.out _ (hb.out.alloc hsr _)).mono ?_); rintro e w1 ⟨rfl, hb1⟩; simp only [World.size_alloc] at hb1; have HB1 := hidP ((hb.out.alloc hsr _).trans (hb1.mono (by omega))); clear hb1))
        go_ret
        exact ⟨by rw [HR.out]; rfl, HB1.out⟩
    · have HR : Hid (r = 0) := by
        show _ = _
        rw [← HRR.out, if_neg (by rw [h1 (by omega)]; simp), h2 (by omega)]
      clear h1 h2
      go_wp2
      go_ret
      exact ⟨by rw [HR.out]; rfl, hb.out⟩
end Go.Proofs.Ytfajkomajbhphaa.Wt
