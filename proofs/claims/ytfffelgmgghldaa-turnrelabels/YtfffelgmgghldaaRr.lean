/- The reference: labels changed for others. -/
import Derived.Test.YtfffelgmgghldaaTu
import Derived.Test.YtfffelgmgghldaaCf
import Derived.Test.YtfffelgmgghldaaCc
namespace Go.Proofs.Ytfffelgmgghldaa.Wt
open Go.ChangeShapes Go.WideShapes Go.ChangeAt Go.RowKit
open Go.Proofs.Ytfffelgmgghldaa.Pl
set_option linter.unusedVariables false
set_option linter.unusedSimpArgs false
theorem res_rel (tm : Array Value) (W : World) (R : Nat) (ec : Int) (x0 x1 : Value) (hB : Blk W R #[x0, x1] 24) (h2 : tm.getD 6 undef = .pointer (some ⟨R, 0, none⟩)) (h3 : tm.getD 7 undef = .int .i64 ec) : (results Try.f19 tm).run Try.prog W = .ok (.tuple #[.agg #[x0, x1], .int .i64 ec]) W := by
  have c0 := hB.cell 0 (v := x0) rfl
  have c1 := hB.cell 1 (v := x1) rfl
  simp only [Array.getD_eq_getD_getElem?] at h2 h3
  simp [results, Try.results19, go_sem, h2, h3, c0, c1]
abbrev CFr (w : World) (v : Value) (r : Int) : Prop := ∀ W, Below w.heap.size w W → Calls Try.prog 36 #[v] W fun e w' => e = .returned (.int .i64 r) ∧ Below W.heap.size W w'
theorem CFr.of {w : World} {v : Value} {l : List Ch} (h : Chs w v l) (hok : okC l) : CFr w v (fltC l) := fun W hW => changesFault_any v l W (h.later hW (Nat.le_refl _)) (by unfold okC at hok; omega)
set_option maxRecDepth 100000 in
theorem relabelled_bad1 (v vi vo : Value) (m : Mc) (r : Int) (w : World) (h : Mach w v m) (hok : okM m) (h0 : faultM m = r) (hr : r ≠ 0) :
    Calls Try.prog 19 #[v, vi, vo] w fun e w' => RatRes (0, []) r w e w' := by
  obtain ⟨z, l⟩ := m
  have HM : Hid (Mach w v (z, l)) := h
  have HK : Hid (okM (z, l)) := hok
  have HR := hidP h0
  have h0' : (r != 0) = true := bne_iff_ne.2 hr
  have h1' : (r == 0) = false := by simpa using hr
  obtain ⟨vs, rfl, hS⟩ := h
  obtain ⟨a, cap, rfl⟩ := hS.sl
  clear hS hok h0 hr
  go_enter Try.func19, Try.ntmps19
  go_wp2_with (first
    | (go_at_call 25; (with_reducible refine (fault_any _ (z, l) _ (HM.out.later (B := w.heap.size) (by go_grown) (Nat.le_refl _)) HK.out r HR.out).mono ?_); rintro e wa ⟨rfl, hb⟩; obtain ⟨sa, b1, b2, hb1⟩ := boxedTwo hb (by simp); have HBa := hidP hb1; have KSa := hidP b1; have KRa := hidP b2; have q0 := KRa.out.cell 0 (v := .int .i64 0) rfl; have q1 := KRa.out.cell 1 (v := .slice none 0 0) rfl; have g0 := KRa.out.fz 0; have g1 := KRa.out.fz 1; clear b1 b2 hb1 hb))
  exact bodyPost_ret (res_rel _ _ (w.heap.size + 1) r _ _ ((KRa.out.set 0 (.int .i64 0)).set 1 (.slice none 0 0)) rfl rfl) rfl ⟨_, rfl, mach_zeroR _, (HBa.out.setCell (Nat.le_succ _) _).setCell (Nat.le_succ _) _⟩
set_option maxRecDepth 100000 in
theorem relabelled_bad2 (v vi vo : Value) (m : Mc) (r : Int) (w : World) (h : Mach w v m) (hok : okM m) (h0 : faultM m = 0) (hI : CFr w vi r) (hr : r ≠ 0) :
    Calls Try.prog 19 #[v, vi, vo] w fun e w' => RatRes (0, []) r w e w' := by
  obtain ⟨z, l⟩ := m
  have HM : Hid (Mach w v (z, l)) := h
  have HK : Hid (okM (z, l)) := hok
  have HR := hidP h0
  have FI := hidP hI
  clear hI
  have h0' : (r != 0) = true := bne_iff_ne.2 hr
  have h1' : (r == 0) = false := by simpa using hr
  obtain ⟨vs, rfl, hS⟩ := h
  obtain ⟨a, cap, rfl⟩ := hS.sl
  clear hS hok h0 hr
  go_enter Try.func19, Try.ntmps19
  go_wp2_with (first
    | (go_at_call 25; (with_reducible refine (fault_any _ (z, l) _ (HM.out.later (B := w.heap.size) (by go_grown) (Nat.le_refl _)) HK.out 0 HR.out).mono ?_); rintro e wa ⟨rfl, hb⟩; obtain ⟨sa, b1, b2, hb1⟩ := boxedTwo hb (by simp); have HBa := hidP hb1; have KSa := hidP b1; have KRa := hidP b2; clear b1 b2 hb1 hb)
    | (go_at_call 36; (with_reducible refine (FI.out _ HBa.out).mono ?_); rintro e wb ⟨rfl, hb⟩; have HBb := hidP (HBa.out.trans (hb.mono HBa.out.size)); have KSb := hidP (KSa.out.below hb KSa.out.lt); have KRb := hidP (KRa.out.below hb KRa.out.lt); have q0 := KRb.out.cell 0 (v := .int .i64 0) rfl; have q1 := KRb.out.cell 1 (v := .slice none 0 0) rfl; have g0 := KRb.out.fz 0; have g1 := KRb.out.fz 1; clear hb))
  exact bodyPost_ret (res_rel _ _ (w.heap.size + 1) r _ _ ((KRb.out.set 0 (.int .i64 0)).set 1 (.slice none 0 0)) rfl rfl) rfl ⟨_, rfl, mach_zeroR _, (HBb.out.setCell (Nat.le_succ _) _).setCell (Nat.le_succ _) _⟩
set_option maxRecDepth 100000 in
theorem relabelled_bad3 (v vi vo : Value) (m : Mc) (r : Int) (w : World) (h : Mach w v m) (hok : okM m) (h0 : faultM m = 0) (hI : CFr w vi 0) (hO : CFr w vo r) (hr : r ≠ 0) :
    Calls Try.prog 19 #[v, vi, vo] w fun e w' => RatRes (0, []) r w e w' := by
  obtain ⟨z, l⟩ := m
  have HM : Hid (Mach w v (z, l)) := h
  have HK : Hid (okM (z, l)) := hok
  have HR := hidP h0
  have FI := hidP hI
  have FO := hidP hO
  clear hI hO
  have h0' : (r != 0) = true := bne_iff_ne.2 hr
  have h1' : (r == 0) = false := by simpa using hr
  obtain ⟨vs, rfl, hS⟩ := h
  obtain ⟨a, cap, rfl⟩ := hS.sl
  clear hS hok h0 hr
  go_enter Try.func19, Try.ntmps19
  go_wp2_with (first
    | (go_at_call 25; (with_reducible refine (fault_any _ (z, l) _ (HM.out.later (B := w.heap.size) (by go_grown) (Nat.le_refl _)) HK.out 0 HR.out).mono ?_); rintro e wa ⟨rfl, hb⟩; obtain ⟨sa, b1, b2, hb1⟩ := boxedTwo hb (by simp); have HBa := hidP hb1; have KSa := hidP b1; have KRa := hidP b2; clear b1 b2 hb1 hb)
    | (go_at_call 36; (with_reducible refine (FI.out _ HBa.out).mono ?_); rintro e wb ⟨rfl, hb⟩; have HBb := hidP (HBa.out.trans (hb.mono HBa.out.size)); have KSb := hidP (KSa.out.below hb KSa.out.lt); have KRb := hidP (KRa.out.below hb KRa.out.lt); clear hb)
    | (go_at_call 36; (with_reducible refine (FO.out _ HBb.out).mono ?_); rintro e w1 ⟨rfl, hb⟩; have HB1 := hidP (HBb.out.trans (hb.mono HBb.out.size)); have KS1 := hidP (KSb.out.below hb KSb.out.lt); have KR1 := hidP (KRb.out.below hb KRb.out.lt); have q0 := KR1.out.cell 0 (v := .int .i64 0) rfl; have q1 := KR1.out.cell 1 (v := .slice none 0 0) rfl; have g0 := KR1.out.fz 0; have g1 := KR1.out.fz 1; clear hb))
  exact bodyPost_ret (res_rel _ _ (w.heap.size + 1) r _ _ ((KR1.out.set 0 (.int .i64 0)).set 1 (.slice none 0 0)) rfl rfl) rfl ⟨_, rfl, mach_zeroR _, (HB1.out.setCell (Nat.le_succ _) _).setCell (Nat.le_succ _) _⟩
def HeldR (s : Nat) (vs : Value) (b o : Nat) (p0 p1 p2 p3 : Int) (w : World) : Prop := w.cell? ⟨s, 1, none⟩ = some vs ∧ HeldA b o p0 p1 p2 p3 w
set_option maxRecDepth 100000 in
set_option maxHeartbeats 3200000 in
theorem relabelled_ok (z : Int) (l : List St) (vs vi vo : Value) (ins outs : List Ch) (w : World) (h : Mach w (.agg #[.int .i64 z, vs]) (z, l)) (hok : okM (z, l)) (hr : faultM (z, l) = 0) (hI : CFr w vi 0) (hO : CFr w vo 0) (hi : Chs w vi ins) (ho : Chs w vo outs) (hi5 : ins.length ≤ 50) (ho5 : outs.length ≤ 50) :
    Calls Try.prog 19 #[.agg #[.int .i64 z, vs], vi, vo] w fun e w' => RatRes (relM ins outs (z, l)) 0 w e w' := by
  have FI := hidP hI
  have FO := hidP hO
  have FCI : Hid (∀ x W, Below w.heap.size w W → Calls Try.prog 37 #[vi, .int .i64 x] W fun e w' => e = .returned (.int .i64 (chgF ins x)) ∧ W = w') := fun x W hW => changed_any vi ins x W (hi.later hW (Nat.le_refl _)) hi5
  have FCO : Hid (∀ x W, Below w.heap.size w W → Calls Try.prog 37 #[vo, .int .i64 x] W fun e w' => e = .returned (.int .i64 (chgF outs x)) ∧ W = w') := fun x W hW => changed_any vo outs x W (ho.later hW (Nat.le_refl _)) ho5
  clear hI hO hi ho hi5 ho5
  have HM : Hid (Mach w (.agg #[.int .i64 z, vs]) (z, l)) := h
  have HK : Hid (okM (z, l)) := hok
  have HR : Hid (faultM (z, l) = 0) := hr
  have h60 := (right_size hr).1
  obtain ⟨vs', hvs, hS⟩ := h
  simp only [Value.agg.injEq, Array.mk.injEq, List.cons.injEq, and_true, true_and] at hvs
  subst hvs
  obtain ⟨a, cap, rfl, hc⟩ := hS.get
  have HC : Hid (∀ j, j < l.length → ∃ b off va, a = some ⟨b, off, none⟩ ∧ b < w.heap.size ∧ w.cell? ⟨b, off + j * 2, none⟩ = some (.int .i64 (el l j).1) ∧ w.cell? ⟨b, off + j * 2 + 1, none⟩ = some va ∧ Arcs w va (el l j).2) := hc
  have HST : Hid (∀ j, j < l.length → finB (el l j).1 = true ∧ (el l j).2.length ≤ 400 ∧ ∀ p ∈ (el l j).2, 0 ≤ p.2.2.2 ∧ p.2.2.2 ≤ 1000) := right_states hr
  obtain ⟨TT, hTT⟩ : ∃ TT : Nat → List St, ∀ j, (l.take j).map (relS ins outs) = TT j := ⟨_, fun _ => rfl⟩
  have HT0 : Hid (TT 0 = []) := by show _ = _; rw [← hTT]; simp
  have HTS : Hid (∀ j, j < l.length → TT (j + 1) = TT j ++ [((el l j).1, (el l j).2.map (relA ins outs))]) := fun j hj => by rw [← hTT, ← hTT, map_take _ hj]; rfl
  have HTL : Hid (∀ j, j ≤ l.length → (TT j).length = j) := fun j hj => by rw [← hTT]; simp; omega
  have HTN : Hid (TT l.length = (relM ins outs (z, l)).2) := by show _ = _; rw [← hTT, List.take_length]; rfl
  clear hS hc hr hok hTT
  generalize hn : l.length = n at *
  have HN : Hid (l.length = n) := hn
  clear hn
  go_enter Try.func19, Try.ntmps19
  go_wp2_with (first
    | (go_at_call 25; (with_reducible refine (fault_any _ (z, l) _ (HM.out.later (B := w.heap.size) (by go_grown) (Nat.le_refl _)) HK.out 0 HR.out).mono ?_); rintro e wa ⟨rfl, hb⟩; obtain ⟨sa, b1, b2, hb1⟩ := boxedTwo hb (by simp); have HBa := hidP hb1; have KSa := hidP b1; have KRa := hidP b2; clear b1 b2 hb1 hb)
    | (go_at_call 36; (with_reducible refine (FI.out _ HBa.out).mono ?_); rintro e wb ⟨rfl, hb⟩; have HBb := hidP (HBa.out.trans (hb.mono HBa.out.size)); have KSb := hidP (KSa.out.below hb KSa.out.lt); have KRb := hidP (KRa.out.below hb KRa.out.lt); clear hb)
    | (go_at_call 36; (with_reducible refine (FO.out _ HBb.out).mono ?_); rintro e w1 ⟨rfl, hb⟩; have HB1 := hidP (HBb.out.trans (hb.mono HBb.out.size)); have KS1 := hidP (KSb.out.below hb KSb.out.lt); have KR1 := hidP (KRb.out.below hb KRb.out.lt); have e0 := KS1.out.cell 0 (v := .int .i64 z) rfl; clear hb))
  have KS := KS1
  have KR := KR1
  clear KS1 KR1 KSa KSb KRa KRb
  have HOM : Hid (OwnSts (w1.alloc (.cells #[.int .i64 z, .slice none 0 0] 24)) w1.heap.size (.slice none 0 0) (TT 0)) := by rw [HT0.out]; exact OwnSts.nil _ _
  have HMM := hidP (Blk.made w1 #[.int .i64 z, .slice none 0 0] 24)
  have HBM : Hid (Below w1.heap.size w1 (w1.alloc (.cells #[.int .i64 z, .slice none 0 0] 24))) := (Below.refl _ _).alloc (Nat.le_refl _) _
  go_loopw [10] (fun s6 wr => ∃ (i : Nat) (av : Option Addr) (cv : Nat), s6 = .int .i64 i ∧ i ≤ n ∧ Hid (Blk wr w1.heap.size #[.int .i64 z, .slice av i cv] 24) ∧ Hid (OwnSts wr w1.heap.size (.slice av i cv) (TT i)) ∧ Hid (Below w1.heap.size w1 wr)) (fun s6 _ => n - (intOf s6).toNat)
  case atStart => exact ⟨0, _, _, by go_num, Nat.zero_le _, HMM, HOM, HBM⟩
  case round =>
    obtain ⟨i, av, cv, rfl, hi, hm, ho, hb⟩ := hrel
    clear HOM HMM HBM
    have KSr := hidP (KS.out.below hb.out KS.out.lt)
    have d1 := KSr.out.cell 1 (v := .slice a n cap) rfl
    have HBw := hidP (HB1.out.trans (hb.out.mono HB1.out.size))
    have hsr := hb.out.size
    have hmlt := hm.out.lt
    by_cases hin : i < n
    · have hin' : (i : Int) < (n : Int) := by omega
      have hi0 : (0 : Int) ≤ (i : Int) := by omega
      obtain ⟨b, off, va, rfl, hbl, y0, y1, gA⟩ := HC.out i hin
      obtain ⟨hfin, hal, hto⟩ := HST.out i hin
      have HTi := hidP (HTS.out i hin)
      have HLn := hidP (HTL.out i hi)
      obtain ⟨a2, cap2, hva, hvx⟩ := gA.get
      subst hva
      have HGA : Hid (∀ W, Below w.heap.size w W → Arcs W (.slice a2 (el l i).2.length cap2) (el l i).2) := fun W hW => gA.later hW (Nat.le_refl _)
      have z0 := (HBw.out.cell (p := ⟨b, off + i * 2, none⟩) hbl).trans y0
      have z1 := (HBw.out.cell (p := ⟨b, off + i * 2 + 1, none⟩) hbl).trans y1
      clear gA hto hfin y0 hvx
      generalize (el l i).1 = fin at *
      generalize (el l i).2 = ar at *
      generalize TT i = Lst at *
      obtain ⟨Ln, hLn⟩ : ∃ Ln, i = Ln := ⟨_, rfl⟩
      rw [hLn] at HLn hm ho
      have HLi := hidP hLn
      clear hLn
      obtain ⟨n2, hn2⟩ : ∃ n2, ar.length = n2 := ⟨_, rfl⟩
      have HN2 := hidP hn2
      rw [hn2] at z1 y1 HGA hal
      obtain ⟨NL, hNL⟩ : ∃ NL : Nat → List Ar, ∀ j, (ar.take j).map (relA ins outs) = NL j := ⟨_, fun _ => rfl⟩
      have HL0 : Hid (NL 0 = []) := by show _ = _; rw [← hNL]; simp
      have HLS : Hid (∀ j, j < n2 → NL (j + 1) = NL j ++ [relA ins outs (el ar j)]) := fun j hj => by rw [← hNL, ← hNL, map_take _ (by omega)]
      have HLL : Hid (∀ j, j ≤ n2 → (NL j).length = j) := fun j hj => by rw [← hNL]; simp; omega
      have HLN : Hid (NL n2 = ar.map (relA ins outs)) := by show _ = _; rw [← hNL, ← hn2, List.take_length]
      clear hn2 hNL
      have d2 := (KSr.out.alloc (.cells #[.int .i64 fin, .slice none 0 0] 44)).cell 1 (v := .slice (some ⟨b, off, none⟩) n cap) rfl
      have z2 := ((HBw.out.alloc HBw.out.size (.cells #[.int .i64 fin, .slice none 0 0] 44)).cell (p := ⟨b, off + i * 2 + 1, none⟩) hbl).trans y1
      go_wp2
      have HSB := hidP (Blk.made wr #[.int .i64 fin, .slice none 0 0] 44)
      have HOA : Hid (OwnArcs (wr.alloc (.cells #[.int .i64 fin, .slice none 0 0] 44)) (wr.heap.size + 1) (.slice none 0 0) (NL 0)) := by rw [HL0.out]; exact OwnArcs.nil _ _
      have HBI : Hid (Below wr.heap.size wr (wr.alloc (.cells #[.int .i64 fin, .slice none 0 0] 44))) := (Below.refl _ _).alloc (Nat.le_refl _) _
      obtain ⟨wq, rfl⟩ : ∃ wq, wq = wr := ⟨_, rfl⟩
      go_loopw [13] (fun s6 wr => ∃ (j : Nat) (aj : Option Addr) (cj : Nat), s6 = .int .i64 j ∧ j ≤ n2 ∧ Hid (Blk wr wq.heap.size #[.int .i64 fin, .slice aj j cj] 44) ∧ Hid (OwnArcs wr (wq.heap.size + 1) (.slice aj j cj) (NL j)) ∧ Hid (Below wq.heap.size wq wr)) (fun s6 _ => n2 - (intOf s6).toNat)
      case atStart => exact ⟨0, _, _, by go_num, Nat.zero_le _, HSB, HOA, HBI⟩
      case round =>
        clear HSB HOA HBI z0 z1 d1 d2 z2
        obtain ⟨j, aj, cj, rfl, hj, hs, hoa, hbi⟩ := hrel
        have hsl := hs.out.lt
        have hsz := hbi.out.size
        have HBx := hidP (HBw.out.trans (hbi.out.mono HBw.out.size))
        by_cases hjn : j < n2
        · have hjn' : (j : Int) < (n2 : Int) := by omega
          have hj0 : (0 : Int) ≤ (j : Int) := by omega
          obtain ⟨b3, off3, ha3, hb3, x0, x1, x2, x3⟩ := arcs_at (HGA.out w (Below.refl _ _)) (j := j) (by rw [HN2.out]; exact hjn)
          subst ha3
          have HLj := hidP (HLS.out j hjn)
          have HLj0 := hidP (HLL.out j hj)
          generalize el ar j = p at *
          obtain ⟨p0, p1, p2, p3⟩ := p
          simp only at x0 x1 x2 x3
          have HX : Hid (∀ W, Below w.heap.size w W → HeldA b3 (off3 + j * 4) p0 p1 p2 p3 W) := fun W hW => ⟨(hW.cell (p := ⟨b3, off3 + j * 4, none⟩) hb3).trans x0, (hW.cell (p := ⟨b3, off3 + j * 4 + 1, none⟩) hb3).trans x1, (hW.cell (p := ⟨b3, off3 + j * 4 + 2, none⟩) hb3).trans x2, (hW.cell (p := ⟨b3, off3 + j * 4 + 3, none⟩) hb3).trans x3⟩
          generalize NL j = cu at *
          obtain ⟨Lj, hLj⟩ : ∃ Lj, j = Lj := ⟨_, rfl⟩
          rw [hLj] at HLj0 hs hoa
          have HLJ := hidP hLj
          clear hLj x0 x1 x2 x3
          have HLr : Hid (NL (j + 1) = cu ++ [(chgF ins p0, chgF outs p1, p2, p3)]) := HLj.out
          clear HLj
          obtain ⟨c0, hc0⟩ : ∃ c0, chgF ins p0 = c0 := ⟨_, rfl⟩
          obtain ⟨c1, hc1⟩ : ∃ c1, chgF outs p1 = c1 := ⟨_, rfl⟩
          have F0 := hidP (FCI.out p0 wr HBx.out)
          have F1 := hidP (FCO.out p1 wr HBx.out)
          rw [hc0] at F0 HLr
          rw [hc1] at F1 HLr
          clear hc0 hc1
          obtain ⟨a4, c4, w4, hr4, ho4, hb4⟩ := OwnArcs.push (W := wr.drew) (base := wq.heap.size + 1) (v := .slice aj Lj cj) (ar := cu) hoa.out (c0, c1, p2, p3) (by have := HLj0.out; have := HLJ.out; omega) (by show _ ≤ wr.heap.size; omega)
          rw [HLj0.out] at hr4 ho4
          have R4 := hidP hr4
          have HO4 := hidP ho4
          have HD : Below wq.heap.size wq wr.drew := hbi.out.drew
          have HS4 := hidP (Blk.below (w := wr.drew) hs.out hb4 (Nat.lt_succ_self _))
          have HB4 := hidP (HD.trans (hb4.mono (Nat.le_succ _)))
          have HXr := HX.out wr HBx.out
          obtain ⟨x0, x1, x2, x3⟩ := HXr
          have HSD : HeldR wq.heap.size (.slice aj Lj cj) b3 (off3 + j * 4) p0 p1 p2 p3 wr.drew := ⟨hs.out.cell 1 rfl, HX.out _ HBx.out.drew⟩
          have HSA : HeldR wq.heap.size (.slice aj Lj cj) b3 (off3 + j * 4) p0 p1 p2 p3 (wr.drew.alloc (.cells #[.int .i64 c0, .int .i64 c1, .int .i64 p2, .int .i64 p3] 47)) := ⟨(Blk.alloc (w := wr.drew) hs.out _).cell 1 rfl, HX.out _ (HBx.out.drew.alloc HBx.out.size _)⟩
          have HSG : HeldR wq.heap.size (.slice aj Lj cj) b3 (off3 + j * 4) p0 p1 p2 p3 w4 := ⟨HS4.out.cell 1 rfl, HX.out _ (HBw.out.trans (HB4.out.mono HBw.out.size))⟩
          have s4 := HS4.out.cell 1 (v := .slice aj Lj cj) rfl
          have g4 := HS4.out.fz 1
          clear hr4 ho4 hb4 HD
          go_wp2_with (first
            | (go_at_call 37; (with_reducible refine F0.out.mono ?_); rintro e w' ⟨rfl, rfl⟩)
            | (go_at_call 37; (with_reducible refine F1.out.mono ?_); rintro e w' ⟨rfl, rfl⟩))
          clear x0 x1 x2 x3
          refine region_anyL (HeldR wq.heap.size (.slice aj Lj cj) b3 (off3 + j * 4) p0 p1 p2 p3) 18 (by kernel_rfl) ?_
          refine anyL_take (i := 0) (v := ?v0_1) at0 (by kernel_rfl) (by kernel_rfl) (by kernel_rfl) (by kernel_rfl) (fun _ _ _ h => h) rfl ?y0_1 HSD ?r0_1
          case y0_1 => intro wx hx; obtain ⟨h4, h0, h1, h2, h3⟩ := hx; go_simp; try (with_reducible rfl)
          simp only [Act.put, List.setIfInBounds_toArray, List.set_cons_zero, List.set_cons_succ]
          refine anyL_take (i := 1) (v := ?v1_2) (atS at0) (by kernel_rfl) (by kernel_rfl) (by kernel_rfl) (by kernel_rfl) (fun _ _ _ h => h) rfl ?y1_2 HSD ?r1_2
          case y1_2 => intro wx hx; obtain ⟨h4, h0, h1, h2, h3⟩ := hx; go_simp; try (with_reducible rfl)
          simp only [Act.put, List.setIfInBounds_toArray, List.set_cons_zero, List.set_cons_succ]
          refine anyL_take (i := 2) (v := ?v2_3) (atS (atS at0)) (by kernel_rfl) (by kernel_rfl) (by kernel_rfl) (by kernel_rfl) (fun _ _ _ h => h) rfl ?y2_3 HSD ?r2_3
          case y2_3 => intro wx hx; obtain ⟨h4, h0, h1, h2, h3⟩ := hx; go_simp; try (with_reducible rfl)
          simp only [Act.put, List.setIfInBounds_toArray, List.set_cons_zero, List.set_cons_succ]
          refine anyL_take (i := 3) (v := ?v3_4) (atS (atS (atS at0))) (by kernel_rfl) (by kernel_rfl) (by kernel_rfl) (by kernel_rfl) (fun _ _ _ h => h) rfl ?y3_4 HSD ?r3_4
          case y3_4 => intro wx hx; obtain ⟨h4, h0, h1, h2, h3⟩ := hx; go_simp; try (with_reducible rfl)
          simp only [Act.put, List.setIfInBounds_toArray, List.set_cons_zero, List.set_cons_succ]
          refine anyL_take (i := 4) (v := ?v4_5) (atS (atS (atS (atS at0)))) (by kernel_rfl) (by kernel_rfl) (by kernel_rfl) (by kernel_rfl) (fun _ _ _ h => h) rfl ?y4_5 HSD ?r4_5
          case y4_5 => intro wx hx; obtain ⟨h4, h0, h1, h2, h3⟩ := hx; go_simp; try (with_reducible rfl)
          simp only [Act.put, List.setIfInBounds_toArray, List.set_cons_zero, List.set_cons_succ]
          refine anyL_take (i := 5) (v := ?v5_6) (atS (atS (atS (atS (atS at0))))) (by kernel_rfl) (by kernel_rfl) (by kernel_rfl) (by kernel_rfl) (fun _ _ _ h => h) rfl ?y5_6 HSD ?r5_6
          case y5_6 => intro wx hx; obtain ⟨h4, h0, h1, h2, h3⟩ := hx; go_simp; try (with_reducible rfl)
          simp only [Act.put, List.setIfInBounds_toArray, List.set_cons_zero, List.set_cons_succ]
          refine anyL_take (i := 6) (v := ?v6_7) (atS (atS (atS (atS (atS (atS at0)))))) (by kernel_rfl) (by kernel_rfl) (by kernel_rfl) (by kernel_rfl) (fun _ _ _ h => h) rfl ?y6_7 HSD ?r6_7
          case y6_7 => intro wx hx; obtain ⟨h4, h0, h1, h2, h3⟩ := hx; go_simp; try (with_reducible rfl)
          simp only [Act.put, List.setIfInBounds_toArray, List.set_cons_zero, List.set_cons_succ]
          refine anyL_take (i := 7) (v := ?v7_8) (atS (atS (atS (atS (atS (atS (atS at0))))))) (by kernel_rfl) (by kernel_rfl) (by kernel_rfl) (by kernel_rfl) (fun _ _ _ h => h) rfl ?y7_8 HSD ?r7_8
          case y7_8 => intro wx hx; obtain ⟨h4, h0, h1, h2, h3⟩ := hx; go_simp; try (with_reducible rfl)
          simp only [Act.put, List.setIfInBounds_toArray, List.set_cons_zero, List.set_cons_succ]
          refine anyL_take (i := 8) (v := ?v8_9) (atS (atS (atS (atS (atS (atS (atS (atS at0)))))))) (by kernel_rfl) (by kernel_rfl) (by kernel_rfl) (by kernel_rfl) (fun _ _ _ h => h) rfl ?y8_9 HSD ?r8_9
          case y8_9 => intro wx hx; obtain ⟨h4, h0, h1, h2, h3⟩ := hx; go_simp; try (with_reducible rfl)
          simp only [Act.put, List.setIfInBounds_toArray, List.set_cons_zero, List.set_cons_succ]
          refine anyL_take (i := 9) (v := ?v9_10) (atS (atS (atS (atS (atS (atS (atS (atS (atS at0))))))))) (by kernel_rfl) (by kernel_rfl) (by kernel_rfl) (by kernel_rfl) (fun _ _ _ h => h) rfl ?y9_10 HSD ?r9_10
          case y9_10 => intro wx hx; obtain ⟨h4, h0, h1, h2, h3⟩ := hx; go_simp; try (with_reducible rfl)
          simp only [Act.put, List.setIfInBounds_toArray, List.set_cons_zero, List.set_cons_succ]
          refine anyL_take (i := 10) (v := ?v10_11) (atS (atS (atS (atS (atS (atS (atS (atS (atS (atS at0)))))))))) (by kernel_rfl) (by kernel_rfl) (by kernel_rfl) (by kernel_rfl) (fun _ _ _ h => h) rfl ?y10_11 HSD ?r10_11
          case y10_11 => intro wx hx; obtain ⟨h4, h0, h1, h2, h3⟩ := hx; go_simp; try (with_reducible rfl)
          simp only [Act.put, List.setIfInBounds_toArray, List.set_cons_zero, List.set_cons_succ]
          refine anyL_take (i := 11) (v := ?v11_12) (atS (atS (atS (atS (atS (atS (atS (atS (atS (atS (atS at0))))))))))) (by kernel_rfl) (by kernel_rfl) (by kernel_rfl) (by kernel_rfl) (fun _ _ _ h => h) rfl ?y11_12 HSD ?r11_12
          case y11_12 => intro wx hx; obtain ⟨h4, h0, h1, h2, h3⟩ := hx; go_simp; try (with_reducible rfl)
          simp only [Act.put, List.setIfInBounds_toArray, List.set_cons_zero, List.set_cons_succ]
          refine anyL_take (i := 12) (v := ?v12_13) (atS (atS (atS (atS (atS (atS (atS (atS (atS (atS (atS (atS at0)))))))))))) (by kernel_rfl) (by kernel_rfl) (by kernel_rfl) (by kernel_rfl) (fun _ _ _ h => h) rfl ?y12_13 HSD ?r12_13
          case y12_13 => intro wx hx; obtain ⟨h4, h0, h1, h2, h3⟩ := hx; go_simp; try (with_reducible rfl)
          simp only [Act.put, List.setIfInBounds_toArray, List.set_cons_zero, List.set_cons_succ]
          refine anyL_take (i := 13) (v := ?v13_14) (atS (atS (atS (atS (atS (atS (atS (atS (atS (atS (atS (atS (atS at0))))))))))))) (by kernel_rfl) (by kernel_rfl) (by kernel_rfl) (by kernel_rfl) (fun _ _ _ h => h) rfl ?y13_14 HSD ?r13_14
          case y13_14 => intro wx hx; obtain ⟨h4, h0, h1, h2, h3⟩ := hx; go_simp; try (with_reducible rfl)
          simp only [Act.put, List.setIfInBounds_toArray, List.set_cons_zero, List.set_cons_succ]
          refine anyL_take (i := 14) (v := ?v14_15) (atS (atS (atS (atS (atS (atS (atS (atS (atS (atS (atS (atS (atS (atS at0)))))))))))))) (by kernel_rfl) (by kernel_rfl) (by kernel_rfl) (by kernel_rfl) (fun _ _ _ h => h) rfl ?y14_15 HSD ?r14_15
          case y14_15 => intro wx hx; obtain ⟨h4, h0, h1, h2, h3⟩ := hx; go_simp; try (with_reducible rfl)
          simp only [Act.put, List.setIfInBounds_toArray, List.set_cons_zero, List.set_cons_succ]
          refine anyL_one (i := 15) (atS (atS (atS (atS (atS (atS (atS (atS (atS (atS (atS (atS (atS (atS (atS at0))))))))))))))) (by kernel_rfl) rfl (fun K hK => ?_)
          go_simp
          refine hK _ _ (.inr HSA) ?_
          try simp only [Act.put, List.setIfInBounds_toArray, List.set_cons_zero, List.set_cons_succ]
          refine anyL_one (i := 16) (atS (atS (atS (atS (atS (atS (atS (atS (atS (atS (atS (atS (atS (atS (atS (atS at0)))))))))))))))) (by kernel_rfl) rfl (fun K hK => ?_)
          refine wp_append_run (.tmp 74) (.tmp 88) 42 rfl rfl rfl R4.out ?_
          refine hK _ _ (.inr HSG) ?_
          try simp only [Act.put, List.setIfInBounds_toArray, List.set_cons_zero, List.set_cons_succ]
          refine anyL_one (i := 17) (atS (atS (atS (atS (atS (atS (atS (atS (atS (atS (atS (atS (atS (atS (atS (atS (atS at0))))))))))))))))) (by kernel_rfl) rfl (fun K hK => ?_)
          go_simp
          refine hK _ _ (.inr HSG) ?_
          try simp only [Act.put, List.setIfInBounds_toArray, List.set_cons_zero, List.set_cons_succ]
          refine anyL_one (i := 18) (atS (atS (atS (atS (atS (atS (atS (atS (atS (atS (atS (atS (atS (atS (atS (atS (atS (atS at0)))))))))))))))))) (by kernel_rfl) rfl (fun K hK => ?_)
          go_simp
          refine hK _ _ (.inl rfl) (anyL_done (by kernel_rfl) (NoPanic.normal ?_))
          try simp only [Act.put, List.setIfInBounds_toArray, List.set_cons_zero, List.set_cons_succ]
          clear HSD HSA HSG
          go_wp2
          go_roundw
          case rel => have hLj := HLJ.out; subst hLj; exact ⟨j + 1, a4, c4, by go_num, by omega, HS4.out.set 1 _, by rw [HLr.out]; exact ownsRow_setCell_below HO4.out (a := ⟨wq.heap.size, 1, none⟩) (Nat.lt_succ_self _) _, HB4.out.setCell (p := ⟨wq.heap.size, 1, none⟩) (Nat.le_refl _) _⟩
          case measure => simp [intOf]; omega
        · have hjn' : ¬ (j : Int) < (n2 : Int) := by omega
          obtain rfl : n2 = j := by omega
          rw [HLN.out] at hoa
          have hs1 := hs.out.cell 0 (v := .int .i64 fin) rfl
          have hs2 := hs.out.cell 1 (v := .slice aj n2 cj) rfl
          have hmq := hm.out.below hbi.out hmlt
          have hm1 := hmq.cell 1 (v := .slice av Ln cv) rfl
          obtain ⟨a6, c6, w6, hr6, hM6, hb6, hO7, hM7, hb7⟩ := push_step (w5 := wr) (B := w1.heap.size) (Mb := w1.heap.size) (fin, ar.map (relA ins outs)) (ho.out.laterB hbi.out) (hoa.out.mono (by omega)) hmq (by omega) (by omega) (by have := HLn.out; have := HLi.out; omega)
          rw [HLn.out] at hr6 hO7 hM7 hb7
          simp only at hr6
          have R6 := hidP hr6
          have f6 := hM6.fz 1
          have c6' := hM6.cell 1 (v := .slice av Ln cv) rfl
          have HO7 := hidP hO7
          have HM7 := hidP hM7
          have HB7 := hidP ((hb.out.trans (hbi.out.mono hsr)).trans hb7)
          clear hr6 hM6 hb6 hO7 hM7 hb7
          go_wp2_with (first
            | (at_builtin; refine wpListAppendRun rfl _ _ 22 rfl rfl rfl R6.out ?_; clear R6))
          go_roundw
          case rel => have hLn := HLi.out; subst hLn; exact ⟨i + 1, a6, c6, by go_num, by omega, HM7, by rw [HTi.out]; exact HO7, HB7⟩
          case measure => simp [intOf]; omega
    · have hin' : ¬ (i : Int) < (n : Int) := by omega
      obtain rfl : i = n := by omega
      rw [HTN.out] at ho
      have m0 := hm.out.cell 0 (v := .int .i64 z) rfl
      have m1 := hm.out.cell 1 (v := .slice av i cv) rfl
      have KRr := hidP (KR.out.below hb.out KR.out.lt)
      have hkr := KR.out.lt
      have q0 := KRr.out.cell 0 (v := .int .i64 0) rfl
      have q1 := KRr.out.cell 1 (v := .slice none 0 0) rfl
      have g0 := KRr.out.fz 0
      have g1 := KRr.out.fz 1
      go_wp2
      exact bodyPost_ret (res_rel _ _ (w.heap.size + 1) 0 _ _ ((KRr.out.set 0 (.int .i64 z)).set 1 (.slice av i cv)) rfl rfl) rfl ⟨_, rfl, ⟨_, rfl, ((ho.out.setCell (a := ⟨w.heap.size + 1, 0, none⟩) hkr _).setCell (a := ⟨w.heap.size + 1, 1, none⟩) hkr _).sts⟩, (HBw.out.setCell (Nat.le_succ _) _).setCell (Nat.le_succ _) _⟩
theorem relabelled_any (v vi vo : Value) (m : Mc) (ins outs : List Ch) (w : World) (h : Mach w v m) (hok : okM m) (hi : Chs w vi ins) (hoi : okC ins) (ho : Chs w vo outs) (hoo : okC outs) :
    Calls Try.prog 19 #[v, vi, vo] w fun e w' => RatRes (relR ins outs m) (relE ins outs m) w e w' := by
  have fI := CFr.of hi hoi
  have fO := CFr.of ho hoo
  unfold relR
  by_cases h0 : faultM m = 0
  · by_cases h1 : fltC ins = 0
    · have hE : relE ins outs m = fltC outs := by unfold relE; rw [if_neg (by simp [h0]), if_neg (by simp [h1])]
      rw [hE]
      by_cases h2 : fltC outs = 0
      · rw [if_pos h2, h2]
        rw [h1] at fI
        rw [h2] at fO
        obtain ⟨z, l⟩ := m
        obtain ⟨vs, rfl, hS⟩ := id h
        exact relabelled_ok z l vs vi vo ins outs w h hok h0 fI fO hi ho (flt_len h1) (flt_len h2)
      · rw [if_neg h2]
        rw [h1] at fI
        exact relabelled_bad3 v vi vo m _ w h hok h0 fI fO h2
    · have hE : relE ins outs m = fltC ins := by unfold relE; rw [if_neg (by simp [h0]), if_pos h1]
      rw [hE, if_neg h1]
      exact relabelled_bad2 v vi vo m _ w h hok h0 fI h1
  · have hE : relE ins outs m = faultM m := by unfold relE; rw [if_pos h0]
    rw [hE, if_neg h0]
    exact relabelled_bad1 v vi vo m _ w h hok rfl h0
end Go.Proofs.Ytfffelgmgghldaa.Wt
