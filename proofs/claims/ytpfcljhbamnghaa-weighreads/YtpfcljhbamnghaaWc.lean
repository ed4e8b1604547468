/- The reference: a machine that reads one word and writes another. -/
import Derived.Test.YtpfcljhbamnghaaWx
namespace Go.Proofs.Ytpfcljhbamnghaa.Wt
open Go.ChangeShapes Go.WideShapes Go.ChangeAt Go.RowKit
open Go.Proofs.Ytpfcljhbamnghaa.Pl
set_option linter.unusedVariables false
set_option linter.unusedSimpArgs false
theorem res_cro (tm : Array Value) (W : World) (R : Nat) (ec : Int) (x0 x1 : Value) (hB : Blk W R #[x0, x1] 26) (h2 : tm.getD 4 undef = .pointer (some ⟨R, 0, none⟩)) (h3 : tm.getD 5 undef = .int .i64 ec) : (results Try.f11 tm).run Try.prog W = .ok (.tuple #[.agg #[x0, x1], .int .i64 ec]) W := by
  have c0 := hB.cell 0 (v := x0) rfl
  have c1 := hB.cell 1 (v := x1) rfl
  simp only [Array.getD_eq_getD_getElem?] at h2 h3
  simp [results, Try.results11, go_sem, h2, h3, c0, c1]
abbrev WFr (w : World) (v : Value) (r : Int) : Prop := ∀ W, Below w.heap.size w W → Calls Try.prog 26 #[v] W fun e w' => e = .returned (.int .i64 r) ∧ W = w'
theorem WFr.of {w : World} {v : Value} {l : List Int} (h : Nums w v l) : WFr w v (wrdE l) := fun W hW => wordFault_any v l W (h.later hW (Nat.le_refl _))
set_option maxRecDepth 100000 in
theorem crossed_bad1 (vx vy : Value) (r : Int) (w : World) (hX : WFr w vx r) (hr : r ≠ 0) :
    Calls Try.prog 11 #[vx, vy] w fun e w' => RatRes (0, []) r w e w' := by
  have FX := hidP hX
  have h0' : (r != 0) = true := bne_iff_ne.2 hr
  have h1' : (r == 0) = false := by simpa using hr
  clear hr hX
  have HB : Hid (Below w.heap.size w (w.alloc (.cells #[.int .i64 0, .slice none 0 0] 26))) := (Below.refl _ _).alloc (Nat.le_refl _) _
  have KR := hidP (Blk.made w #[.int .i64 0, .slice none 0 0] 26)
  have q0 := KR.out.cell 0 (v := .int .i64 0) rfl
  have q1 := KR.out.cell 1 (v := .slice none 0 0) rfl
  have g0 := KR.out.fz 0
  have g1 := KR.out.fz 1
  go_enter Try.func11, Try.ntmps11
  go_wp2_with (first
    | (go_at_call 26; (with_reducible refine (FX.out _ HB.out).mono ?_); rintro e w' ⟨rfl, rfl⟩))
  exact bodyPost_ret (res_cro _ _ w.heap.size r _ _ KR.out rfl rfl) rfl ⟨_, rfl, mach_zeroR _, HB.out⟩
set_option maxRecDepth 100000 in
theorem crossed_bad2 (vx vy : Value) (r : Int) (w : World) (hX : WFr w vx 0) (hY : WFr w vy r) (hr : r ≠ 0) :
    Calls Try.prog 11 #[vx, vy] w fun e w' => RatRes (0, []) r w e w' := by
  have FX := hidP hX
  have FY := hidP hY
  have h0' : (r != 0) = true := bne_iff_ne.2 hr
  have h1' : (r == 0) = false := by simpa using hr
  clear hr hX hY
  have HB : Hid (Below w.heap.size w (w.alloc (.cells #[.int .i64 0, .slice none 0 0] 26))) := (Below.refl _ _).alloc (Nat.le_refl _) _
  have KR := hidP (Blk.made w #[.int .i64 0, .slice none 0 0] 26)
  have q0 := KR.out.cell 0 (v := .int .i64 0) rfl
  have q1 := KR.out.cell 1 (v := .slice none 0 0) rfl
  have g0 := KR.out.fz 0
  have g1 := KR.out.fz 1
  go_enter Try.func11, Try.ntmps11
  go_wp2_with (first
    | (go_at_call 26; (with_reducible refine (FX.out _ HB.out).mono ?_); rintro e w' ⟨rfl, rfl⟩)
    | (go_at_call 26; (with_reducible refine (FY.out _ HB.out).mono ?_); rintro e w' ⟨rfl, rfl⟩))
  exact bodyPost_ret (res_cro _ _ w.heap.size r _ _ KR.out rfl rfl) rfl ⟨_, rfl, mach_zeroR _, HB.out⟩
set_option maxRecDepth 100000 in
set_option maxHeartbeats 3200000 in
theorem crossed_ok (vx vy : Value) (x y : List Int) (w : World) (hX : WFr w vx 0) (hY : WFr w vy 0) (h1 : Nums w vx x) (h2 : Nums w vy y) (hx12 : x.length ≤ 12) (hy12 : y.length ≤ 12) :
    Calls Try.prog 11 #[vx, vy] w fun e w' => RatRes (croM x y) 0 w e w' := by
  have FX := hidP hX
  have FY := hidP hY
  obtain ⟨ax, cx, rfl, hcx⟩ := h1.get
  obtain ⟨ay, cy, rfl, hcy⟩ := h2.get
  have HCX : Hid (∀ j, j < x.length → ∃ b off, ax = some ⟨b, off, none⟩ ∧ b < w.heap.size ∧ w.cell? ⟨b, off + j, none⟩ = some (.int .i64 (el x j))) := hcx
  have HCY : Hid (∀ j, j < y.length → ∃ b off, ay = some ⟨b, off, none⟩ ∧ b < w.heap.size ∧ w.cell? ⟨b, off + j, none⟩ = some (.int .i64 (el y j))) := hcy
  obtain ⟨TT, hTT⟩ : ∃ TT : Nat → List St, ∀ j, (List.range j).map (croS x y) = TT j := ⟨_, fun _ => rfl⟩
  have HT0 : Hid (TT 0 = []) := by show _ = _; rw [← hTT]; rfl
  have HTS : Hid (∀ j, TT (j + 1) = TT j ++ [(1000000001, [(atW x j, atW y j, 0, (j : Int) + 1)])]) := fun j => by rw [← hTT, ← hTT, List.range_succ]; simp [croS]
  have HTL : Hid (∀ j, (TT j).length = j) := fun j => by rw [← hTT]; simp
  obtain ⟨n, hn⟩ : ∃ n, max x.length y.length = n := ⟨_, rfl⟩
  have HTN : Hid ((croM x y) = (0, TT n ++ [(0, [])])) := by show _ = _; rw [← hTT, ← hn]; rfl
  clear hX hY h1 h2 hcx hcy hTT
  generalize hXX : x.length = X at *
  generalize hYY : y.length = Y at *
  have HNX := hidP hXX
  have HNY := hidP hYY
  have hnx : X ≤ n := by omega
  have hny : Y ≤ n := by omega
  have hnn : n ≤ 12 := by omega
  have hnxy : n ≤ X ∨ n ≤ Y := by omega
  clear hn hXX hYY
  have HB : Hid (Below w.heap.size w (w.alloc (.cells #[.int .i64 0, .slice none 0 0] 26))) := (Below.refl _ _).alloc (Nat.le_refl _) _
  have KR := hidP (Blk.made w #[.int .i64 0, .slice none 0 0] 26)
  have hs1 : (w.alloc (.cells #[.int .i64 0, .slice none 0 0] 26)).heap.size = w.heap.size + 1 := World.size_alloc _ _
  go_enter Try.func11, Try.ntmps11
  go_wp2_with (first
    | (go_at_call 26; (with_reducible refine (FX.out _ HB.out).mono ?_); rintro e w' ⟨rfl, rfl⟩)
    | (go_at_call 26; (with_reducible refine (FY.out _ HB.out).mono ?_); rintro e w' ⟨rfl, rfl⟩))
  generalize hw1 : w.alloc (.cells #[.int .i64 0, .slice none 0 0] 26) = w1 at *
  clear hw1
  have HOM : Hid (OwnSts (w1.alloc (.cells #[.int .i64 0, .slice none 0 0] 26)) (w.heap.size + 1) (.slice none 0 0) (TT 0)) := by rw [HT0.out]; exact OwnSts.nil _ _
  have HMM : Hid (Blk (w1.alloc (.cells #[.int .i64 0, .slice none 0 0] 26)) (w.heap.size + 1) #[.int .i64 0, .slice none 0 0] 26) := by
    have := Blk.made w1 #[.int .i64 0, .slice none 0 0] 26
    rwa [hs1] at this
  have HBM : Hid (Below (w.heap.size + 1) w1 (w1.alloc (.cells #[.int .i64 0, .slice none 0 0] 26))) := (Below.refl _ _).alloc (by omega) _
  obtain ⟨M0, hM0⟩ : ∃ M0, w.heap.size + 1 = M0 := ⟨_, rfl⟩
  rw [hM0] at HOM HMM HBM
  have HM0 := hidP hM0
  try simp only [hM0]
  go_loopw [8] (fun s8 wr => ∃ (i : Nat) (av : Option Addr) (cv : Nat), s8 = .int .i64 i ∧ i ≤ n ∧ Hid (Blk wr M0 #[.int .i64 0, .slice av i cv] 26) ∧ Hid (OwnSts wr M0 (.slice av i cv) (TT i)) ∧ Hid (Below M0 w1 wr)) (fun s8 _ => n - (intOf s8).toNat)
  case atStart => exact ⟨0, _, _, by go_num, Nat.zero_le _, HMM, HOM, HBM⟩
  case round =>
    obtain ⟨i, av, cv, rfl, hi, hm, ho, hb⟩ := hrel
    clear HOM HMM HBM
    have hsr : M0 ≤ wr.heap.size := by have := hb.out.size; omega
    have hmlt := hm.out.lt
    have HBw : Hid (Below w.heap.size w wr) := HB.out.trans (hb.out.mono (by omega))
    have HTi := hidP (HTS.out i)
    have HLn := hidP (HTL.out i)
    obtain ⟨Lst, hLst⟩ : ∃ Lst, TT i = Lst := ⟨_, rfl⟩
    have HLS := hidP hLst
    rw [hLst] at HTi HLn ho
    clear hLst
    obtain ⟨Ln, hLn⟩ : ∃ Ln, i = Ln := ⟨_, rfl⟩
    rw [hLn] at HLn hm ho
    have HLi := hidP hLn
    clear hLn
    have hw1 : IntKind.i64.wrap ((i : Int) + 1) = (i : Int) + 1 := wrapI (by omega) (by omega)
    by_cases hix : i < X
    · by_cases hiy : i < Y
      · obtain ⟨bx, ox, rfl, hbx, gx⟩ := HCX.out i hix
        obtain ⟨by_, oy, rfl, hby, gy⟩ := HCY.out i hiy
        have hx' : (i : Int) < (X : Int) := by omega
        have hy' : (i : Int) < (Y : Int) := by omega
        have hAx : atW x i = el x i := by unfold atW; rw [if_pos (by rw [HNX.out]; omega)]
        have hAy : atW y i = el y i := by unfold atW; rw [if_pos (by rw [HNY.out]; omega)]
        rw [hAx, hAy] at HTi
        clear hAx hAy
        generalize el x i = p at *
        generalize el y i = q at *
        have cx := (((HBw.out.alloc HBw.out.size (.cells #[.int .i64 0, .int .i64 0, .int .i64 0, .int .i64 ((i : Int) + 1)] 53)).cell (p := ⟨bx, ox + i, none⟩) hbx).trans gx)
        have cy := (((HBw.out.alloc HBw.out.size (.cells #[.int .i64 p, .int .i64 0, .int .i64 0, .int .i64 ((i : Int) + 1)] 53)).cell (p := ⟨by_, oy + i, none⟩) hby).trans gy)
        have fa0 := (Blk.made wr #[.int .i64 0, .int .i64 0, .int .i64 0, .int .i64 ((i : Int) + 1)] 53).fz 0
        have fa1 := (Blk.made wr #[.int .i64 p, .int .i64 0, .int .i64 0, .int .i64 ((i : Int) + 1)] 53).fz 1
        have a0 := (Blk.made wr #[.int .i64 p, .int .i64 q, .int .i64 0, .int .i64 ((i : Int) + 1)] 53).cell 0 (v := .int .i64 p) rfl
        have a1 := (Blk.made wr #[.int .i64 p, .int .i64 q, .int .i64 0, .int .i64 ((i : Int) + 1)] 53).cell 1 (v := .int .i64 q) rfl
        have a2 := (Blk.made wr #[.int .i64 p, .int .i64 q, .int .i64 0, .int .i64 ((i : Int) + 1)] 53).cell 2 (v := .int .i64 0) rfl
        have a3 := (Blk.made wr #[.int .i64 p, .int .i64 q, .int .i64 0, .int .i64 ((i : Int) + 1)] 53).cell 3 (v := .int .i64 ((i : Int) + 1)) rfl
        have HB1 : Hid (Below M0 w1 (wr.alloc (.cells #[.int .i64 p, .int .i64 q, .int .i64 0, .int .i64 ((i : Int) + 1)] 53))) := hb.out.alloc hsr _
        have hM1 := hm.out.alloc (.cells #[.int .i64 p, .int .i64 q, .int .i64 0, .int .i64 ((i : Int) + 1)] 53)
        have m1 := hM1.cell 1 (v := .slice av Ln cv) rfl
        have hO2 := ((ho.out.laterB ((Below.refl _ _).alloc (Nat.le_refl _) (.cells #[.int .i64 p, .int .i64 q, .int .i64 0, .int .i64 ((i : Int) + 1)] 53))).laterB ((Below.refl _ _).alloc (Nat.le_refl _) (.cells #[.int .i64 p, .int .i64 q, .int .i64 0, .int .i64 ((i : Int) + 1)] 53)))
        have hA2 := (OwnArcs.made (wr.alloc (.cells #[.int .i64 p, .int .i64 q, .int .i64 0, .int .i64 ((i : Int) + 1)] 53)) (p, q, 0, (i : Int) + 1)).mono (base' := M0) (by rw [World.size_alloc]; omega)
        obtain ⟨a6, c6, w6, hr6, hM6, hb6, hO7, hM7, hb7⟩ := push_step (w5 := (wr.alloc (.cells #[.int .i64 p, .int .i64 q, .int .i64 0, .int .i64 ((i : Int) + 1)] 53)).alloc (.cells #[.int .i64 p, .int .i64 q, .int .i64 0, .int .i64 ((i : Int) + 1)] 53)) (B := M0) (Mb := M0) (1000000001, [(p, q, 0, (i : Int) + 1)]) hO2 hA2 (hM1.alloc _) (by simp only [World.size_alloc]; omega) (Nat.le_refl _) (by have := HLn.out; have := HLi.out; omega)
        rw [HLn.out] at hr6 hO7 hM7 hb7
        simp only [World.size_alloc] at hr6
        have R6 := hidP hr6
        have f6 := hM6.fz 1
        have c6' := hM6.cell 1 (v := .slice av Ln cv) rfl
        have HO7 := hidP hO7
        have HM7 := hidP hM7
        have HB7 := hidP ((HB1.out.alloc (by rw [World.size_alloc]; omega) _).trans hb7)
        clear hr6 hM6 hb6 hO7 hM7 hb7 hO2 hA2 hM1
        go_wp2_with (first
          | (at_builtin; refine wpListAppendRun rfl _ _ 24 rfl rfl rfl R6.out ?_; clear R6))
        go_roundw
        case rel => have hLn := HLi.out; subst hLn; exact ⟨i + 1, a6, c6, by go_num, by omega, HM7, by rw [HTi.out]; exact HO7, HB7⟩
        case measure => simp [intOf]; omega
      · obtain ⟨bx, ox, rfl, hbx, gx⟩ := HCX.out i hix
        have hx' : (i : Int) < (X : Int) := by omega
        have hy' : ¬ (i : Int) < (Y : Int) := by omega
        have hAx : atW x i = el x i := by unfold atW; rw [if_pos (by rw [HNX.out]; omega)]
        have hAy : atW y i = 0 := by unfold atW; rw [if_neg (by rw [HNY.out]; omega)]
        rw [hAx, hAy] at HTi
        clear hAx hAy
        generalize el x i = p at *
        have cx := (((HBw.out.alloc HBw.out.size (.cells #[.int .i64 0, .int .i64 0, .int .i64 0, .int .i64 ((i : Int) + 1)] 53)).cell (p := ⟨bx, ox + i, none⟩) hbx).trans gx)
        have fa0 := (Blk.made wr #[.int .i64 0, .int .i64 0, .int .i64 0, .int .i64 ((i : Int) + 1)] 53).fz 0
        have fa1 := (Blk.made wr #[.int .i64 p, .int .i64 0, .int .i64 0, .int .i64 ((i : Int) + 1)] 53).fz 1
        have a0 := (Blk.made wr #[.int .i64 p, .int .i64 0, .int .i64 0, .int .i64 ((i : Int) + 1)] 53).cell 0 (v := .int .i64 p) rfl
        have a1 := (Blk.made wr #[.int .i64 p, .int .i64 0, .int .i64 0, .int .i64 ((i : Int) + 1)] 53).cell 1 (v := .int .i64 0) rfl
        have a2 := (Blk.made wr #[.int .i64 p, .int .i64 0, .int .i64 0, .int .i64 ((i : Int) + 1)] 53).cell 2 (v := .int .i64 0) rfl
        have a3 := (Blk.made wr #[.int .i64 p, .int .i64 0, .int .i64 0, .int .i64 ((i : Int) + 1)] 53).cell 3 (v := .int .i64 ((i : Int) + 1)) rfl
        have HB1 : Hid (Below M0 w1 (wr.alloc (.cells #[.int .i64 p, .int .i64 0, .int .i64 0, .int .i64 ((i : Int) + 1)] 53))) := hb.out.alloc hsr _
        have hM1 := hm.out.alloc (.cells #[.int .i64 p, .int .i64 0, .int .i64 0, .int .i64 ((i : Int) + 1)] 53)
        have m1 := hM1.cell 1 (v := .slice av Ln cv) rfl
        have hO2 := ((ho.out.laterB ((Below.refl _ _).alloc (Nat.le_refl _) (.cells #[.int .i64 p, .int .i64 0, .int .i64 0, .int .i64 ((i : Int) + 1)] 53))).laterB ((Below.refl _ _).alloc (Nat.le_refl _) (.cells #[.int .i64 p, .int .i64 0, .int .i64 0, .int .i64 ((i : Int) + 1)] 53)))
        have hA2 := (OwnArcs.made (wr.alloc (.cells #[.int .i64 p, .int .i64 0, .int .i64 0, .int .i64 ((i : Int) + 1)] 53)) (p, 0, 0, (i : Int) + 1)).mono (base' := M0) (by rw [World.size_alloc]; omega)
        obtain ⟨a6, c6, w6, hr6, hM6, hb6, hO7, hM7, hb7⟩ := push_step (w5 := (wr.alloc (.cells #[.int .i64 p, .int .i64 0, .int .i64 0, .int .i64 ((i : Int) + 1)] 53)).alloc (.cells #[.int .i64 p, .int .i64 0, .int .i64 0, .int .i64 ((i : Int) + 1)] 53)) (B := M0) (Mb := M0) (1000000001, [(p, 0, 0, (i : Int) + 1)]) hO2 hA2 (hM1.alloc _) (by simp only [World.size_alloc]; omega) (Nat.le_refl _) (by have := HLn.out; have := HLi.out; omega)
        rw [HLn.out] at hr6 hO7 hM7 hb7
        simp only [World.size_alloc] at hr6
        have R6 := hidP hr6
        have f6 := hM6.fz 1
        have c6' := hM6.cell 1 (v := .slice av Ln cv) rfl
        have HO7 := hidP hO7
        have HM7 := hidP hM7
        have HB7 := hidP ((HB1.out.alloc (by rw [World.size_alloc]; omega) _).trans hb7)
        clear hr6 hM6 hb6 hO7 hM7 hb7 hO2 hA2 hM1
        go_wp2_with (first
          | (at_builtin; refine wpListAppendRun rfl _ _ 24 rfl rfl rfl R6.out ?_; clear R6))
        go_roundw
        case rel => have hLn := HLi.out; subst hLn; exact ⟨i + 1, a6, c6, by go_num, by omega, HM7, by rw [HTi.out]; exact HO7, HB7⟩
        case measure => simp [intOf]; omega
    · by_cases hiy : i < Y
      · obtain ⟨by_, oy, rfl, hby, gy⟩ := HCY.out i hiy
        have hx' : ¬ (i : Int) < (X : Int) := by omega
        have hy' : (i : Int) < (Y : Int) := by omega
        have hAx : atW x i = 0 := by unfold atW; rw [if_neg (by rw [HNX.out]; omega)]
        have hAy : atW y i = el y i := by unfold atW; rw [if_pos (by rw [HNY.out]; omega)]
        rw [hAx, hAy] at HTi
        clear hAx hAy
        generalize el y i = q at *
        have cy := (((HBw.out.alloc HBw.out.size (.cells #[.int .i64 0, .int .i64 0, .int .i64 0, .int .i64 ((i : Int) + 1)] 53)).cell (p := ⟨by_, oy + i, none⟩) hby).trans gy)
        have fa0 := (Blk.made wr #[.int .i64 0, .int .i64 0, .int .i64 0, .int .i64 ((i : Int) + 1)] 53).fz 0
        have fa1 := (Blk.made wr #[.int .i64 0, .int .i64 0, .int .i64 0, .int .i64 ((i : Int) + 1)] 53).fz 1
        have a0 := (Blk.made wr #[.int .i64 0, .int .i64 q, .int .i64 0, .int .i64 ((i : Int) + 1)] 53).cell 0 (v := .int .i64 0) rfl
        have a1 := (Blk.made wr #[.int .i64 0, .int .i64 q, .int .i64 0, .int .i64 ((i : Int) + 1)] 53).cell 1 (v := .int .i64 q) rfl
        have a2 := (Blk.made wr #[.int .i64 0, .int .i64 q, .int .i64 0, .int .i64 ((i : Int) + 1)] 53).cell 2 (v := .int .i64 0) rfl
        have a3 := (Blk.made wr #[.int .i64 0, .int .i64 q, .int .i64 0, .int .i64 ((i : Int) + 1)] 53).cell 3 (v := .int .i64 ((i : Int) + 1)) rfl
        have HB1 : Hid (Below M0 w1 (wr.alloc (.cells #[.int .i64 0, .int .i64 q, .int .i64 0, .int .i64 ((i : Int) + 1)] 53))) := hb.out.alloc hsr _
        have hM1 := hm.out.alloc (.cells #[.int .i64 0, .int .i64 q, .int .i64 0, .int .i64 ((i : Int) + 1)] 53)
        have m1 := hM1.cell 1 (v := .slice av Ln cv) rfl
        have hO2 := ((ho.out.laterB ((Below.refl _ _).alloc (Nat.le_refl _) (.cells #[.int .i64 0, .int .i64 q, .int .i64 0, .int .i64 ((i : Int) + 1)] 53))).laterB ((Below.refl _ _).alloc (Nat.le_refl _) (.cells #[.int .i64 0, .int .i64 q, .int .i64 0, .int .i64 ((i : Int) + 1)] 53)))
        have hA2 := (OwnArcs.made (wr.alloc (.cells #[.int .i64 0, .int .i64 q, .int .i64 0, .int .i64 ((i : Int) + 1)] 53)) (0, q, 0, (i : Int) + 1)).mono (base' := M0) (by rw [World.size_alloc]; omega)
        obtain ⟨a6, c6, w6, hr6, hM6, hb6, hO7, hM7, hb7⟩ := push_step (w5 := (wr.alloc (.cells #[.int .i64 0, .int .i64 q, .int .i64 0, .int .i64 ((i : Int) + 1)] 53)).alloc (.cells #[.int .i64 0, .int .i64 q, .int .i64 0, .int .i64 ((i : Int) + 1)] 53)) (B := M0) (Mb := M0) (1000000001, [(0, q, 0, (i : Int) + 1)]) hO2 hA2 (hM1.alloc _) (by simp only [World.size_alloc]; omega) (Nat.le_refl _) (by have := HLn.out; have := HLi.out; omega)
        rw [HLn.out] at hr6 hO7 hM7 hb7
        simp only [World.size_alloc] at hr6
        have R6 := hidP hr6
        have f6 := hM6.fz 1
        have c6' := hM6.cell 1 (v := .slice av Ln cv) rfl
        have HO7 := hidP hO7
        have HM7 := hidP hM7
        have HB7 := hidP ((HB1.out.alloc (by rw [World.size_alloc]; omega) _).trans hb7)
        clear hr6 hM6 hb6 hO7 hM7 hb7 hO2 hA2 hM1
        go_wp2_with (first
          | (at_builtin; refine wpListAppendRun rfl _ _ 24 rfl rfl rfl R6.out ?_; clear R6))
        go_roundw
        case rel => have hLn := HLi.out; subst hLn; exact ⟨i + 1, a6, c6, by go_num, by omega, HM7, by rw [HTi.out]; exact HO7, HB7⟩
        case measure => simp [intOf]; omega
      · have hx' : ¬ (i : Int) < (X : Int) := by omega
        have hy' : ¬ (i : Int) < (Y : Int) := by omega
        obtain rfl : i = n := by omega
        have m1 := hm.out.cell 1 (v := .slice av Ln cv) rfl
        obtain ⟨a6, c6, w6, hr6, hM6, hb6, hO7, hM7, hb7⟩ := push_step (w5 := wr) (B := M0) (Mb := M0) (0, []) ho.out (OwnArcs.nil _ _) hm.out hsr (Nat.le_refl _) (by have := HLn.out; have := HLi.out; omega)
        rw [HLn.out] at hr6 hO7 hM7 hb7
        have R6 := hidP hr6
        have f6 := hM6.fz 1
        have c6' := hM6.cell 1 (v := .slice av Ln cv) rfl
        have HB7 := hidP (hb.out.trans hb7)
        have HBw7 : Hid (Below w.heap.size w (w6.setCell ⟨M0, 1, none⟩ (.slice a6 (Ln + 1) c6))) := HB.out.trans (HB7.out.mono (by omega))
        have KR7 := hidP (KR.out.below HB7.out (by omega))
        have HO7 := hidP hO7
        have k0 := hM7.cell 0 (v := .int .i64 0) rfl
        have k1 := hM7.cell 1 (v := .slice a6 (Ln + 1) c6) rfl
        have q0 := KR7.out.cell 0 (v := .int .i64 0) rfl
        have q1 := KR7.out.cell 1 (v := .slice none 0 0) rfl
        have g0 := KR7.out.fz 0
        have g1 := KR7.out.fz 1
        clear hr6 hM6 hb6 hO7 hb7
        go_wp2_with (first
          | (at_builtin; refine wpListAppendRun rfl _ _ 24 rfl rfl rfl R6.out ?_; clear R6))
        exact bodyPost_ret (res_cro _ _ w.heap.size 0 _ _ ((KR7.out.set 0 (.int .i64 0)).set 1 (.slice a6 (Ln + 1) c6)) rfl rfl) rfl ⟨_, rfl, by rw [HTN.out, HLS.out]; exact ⟨_, rfl, ((HO7.out.setCell (a := ⟨w.heap.size, 0, none⟩) (show w.heap.size < M0 by omega) _).setCell (a := ⟨w.heap.size, 1, none⟩) (show w.heap.size < M0 by omega) _).sts⟩, (HBw7.out.setCell (Nat.le_refl _) _).setCell (Nat.le_refl _) _⟩
theorem crossed_any (vx vy : Value) (x y : List Int) (w : World) (h1 : Nums w vx x) (h2 : Nums w vy y) :
    Calls Try.prog 11 #[vx, vy] w fun e w' => RatRes (croR x y) (croE x y) w e w' := by
  have fX := WFr.of h1
  have fY := WFr.of h2
  unfold croR
  by_cases hx : wrdE x = 0
  · have hE : croE x y = wrdE y := by unfold croE; rw [if_neg (by simp [hx])]
    rw [hE]
    by_cases hy : wrdE y = 0
    · rw [if_pos hy, hy]
      rw [hx] at fX
      rw [hy] at fY
      exact crossed_ok vx vy x y w fX fY h1 h2 (wrd_parts hx).1 (wrd_parts hy).1
    · rw [if_neg hy]
      rw [hx] at fX
      exact crossed_bad2 vx vy _ w fX fY hy
  · have hE : croE x y = wrdE x := by unfold croE; rw [if_pos hx]
    rw [hE, if_neg hx]
    exact crossed_bad1 vx vy _ w fX hx
end Go.Proofs.Ytpfcljhbamnghaa.Wt
