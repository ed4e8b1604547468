/- The reference: a machine is read from its bytes. -/
import Derived.Test.YtbbjpdadickilaaCr
import Derived.Test.YtbbjpdadickilaaMcC
import Derived.Test.YtbbjpdadickilaaMcR
import Derived.Test.YtbbjpdadickilaaPlainUq
import Derived.Test.YtbbjpdadickilaaBp
namespace Go.Proofs.Ytbbjpdadickilaa.Wt
open Go.ChangeShapes Go.WideShapes Go.ChangeAt Go.RowKit
open Go.Proofs.Ytbbjpdadickilaa.Pl
set_option linter.unusedVariables false
set_option linter.unusedSimpArgs false
theorem res_machU (tm : Array Value) (W : World) (R : Nat) (z ec : Int) (vs : Value) (hB : Blk W R #[.int .i64 z, vs] 24) (h2 : tm.getD 2 undef = .pointer (some ⟨R, 0, none⟩)) (h3 : tm.getD 3 undef = .int .i64 ec) : (results Try.f14 tm).run Try.prog W = .ok (.tuple #[.agg #[.int .i64 z, vs], .int .i64 ec]) W := by
  have c0 := hB.cell 0 (v := .int .i64 z) rfl
  have c1 := hB.cell 1 (v := vs) rfl
  simp only [Array.getD_eq_getD_getElem?] at h2 h3
  simp [results, Try.results14, go_sem, h2, h3, c0, c1]
theorem blk_twoU {W : World} {R : Nat} {a b x y : Value} {t : TypeId} (h : Blk W R #[a, b] t) : Blk ((W.setCell ⟨R, 0, none⟩ x).setCell ⟨R, 1, none⟩ y) R #[x, y] t := (h.set 0 x).set 1 y
theorem zero_postU {l : List Int} {w W : World} {tm : Array Value} {x0 x1 : Value} {ec : Int} (hB : Blk W w.heap.size #[x0, x1] 24) (hb : Below w.heap.size w W) (ha : UnpAns l (0, []) ec) (h2 : tm.getD 2 undef = .pointer (some ⟨w.heap.size, 0, none⟩)) (h3 : tm.getD 3 undef = .int .i64 ec) :
    bodyPost Try.prog Try.f14 (fun e w' => UnpRes l w e w') .ret { tmps := tm, defers := [] } ((W.setCell ⟨w.heap.size, 0, none⟩ (.int .i64 0)).setCell ⟨w.heap.size, 1, none⟩ (.slice none 0 0)) :=
  bodyPost_ret (res_machU _ _ w.heap.size 0 ec _ (blk_twoU hB) h2 h3) rfl ⟨_, (0, []), ec, rfl, mach_zeroU _, ha, (hb.setCell (Nat.le_refl _) _).setCell (Nat.le_refl _) _⟩
set_option maxRecDepth 100000 in
theorem unpackedR_long (a : Option Addr) (cap : Nat) (l : List Int) (w : World) (h : 8000 < l.length) :
    Calls Try.prog 14 #[.slice a l.length cap] w fun e w' => UnpRes l w e w' := by
  have HA : Hid (UnpAns l (0, []) 1) := by unfold UnpAns; rw [if_pos h]; exact ⟨rfl, rfl⟩
  have h' : (8000 : Int) < (l.length : Int) := by omega
  generalize l.length = n at *
  go_enter Try.func14, Try.ntmps14
  go_wp2
  exact bodyPost_ret (v := .tuple #[.agg #[.int .i64 0, .slice none 0 0], .int .i64 1]) (by simp [results, Try.results14, go_sem]) rfl ⟨_, (0, []), 1, rfl, mach_zeroU _, HA.out, by go_grown⟩
set_option maxRecDepth 100000 in
theorem unpackedR_short (a : Option Addr) (cap : Nat) (l : List Int) (w : World) (h : l.length < 5) :
    Calls Try.prog 14 #[.slice a l.length cap] w fun e w' => UnpRes l w e w' := by
  have HA : Hid (UnpAns l (0, []) 3) := by unfold UnpAns; rw [if_neg (by omega), if_pos h]; exact ⟨rfl, rfl⟩
  have h1 : ¬ (8000 : Int) < (l.length : Int) := by omega
  have h' : (l.length : Int) < 5 := by omega
  generalize l.length = n at *
  go_enter Try.func14, Try.ntmps14
  go_wp2
  exact bodyPost_ret (v := .tuple #[.agg #[.int .i64 0, .slice none 0 0], .int .i64 3]) (by simp [results, Try.results14, go_sem]) rfl ⟨_, (0, []), 3, rfl, mach_zeroU _, HA.out, by go_grown⟩
set_option maxRecDepth 100000 in
set_option maxHeartbeats 3200000 in
theorem unpackedR_main (a : Option Addr) (cap : Nat) (l : List Int) (w : World) (h : Bys w (.slice a l.length cap) l) (hb : bytesB l) (hcap : l.length ≤ cap) (h5 : 5 ≤ l.length) (h8 : l.length ≤ 8000) :
    Calls Try.prog 14 #[.slice a l.length cap] w fun e w' => UnpRes l w e w' := by
  obtain ⟨e, he⟩ : ∃ e, l.length = e + 2 := ⟨l.length - 2, by omega⟩
  have hbd : bodyOf l = l.take e := by unfold bodyOf; rw [he]; rfl
  have hsm : sumOf l = joinL ((l.drop e).take 2) := by unfold sumOf; rw [he, List.take_of_length_le (by rw [List.length_drop]; omega)]; rfl
  obtain ⟨bd, hbde⟩ : ∃ bd, l.take e = bd := ⟨_, rfl⟩
  have hbl : bd.length = e := by rw [← hbde, List.length_take]; omega
  have hbb : bytesB bd := by rw [← hbde]; exact bytes_take hb e
  have HBY : Hid (∀ W, Below w.heap.size w W → Bys W (.slice a (e + 2) cap) l) := fun W hW => by rw [← he]; exact h.later hW (Nat.le_refl _)
  have HRM : Hid (∀ W, Below w.heap.size w W → Calls Try.prog 23 #[.slice a e cap] W fun e w' => e = .returned (.int .i64 (crcN bd)) ∧ Below W.heap.size W w') := fun W hW => by
    have h1 := bys_pre (h.later hW (Nat.le_refl _)) e (by omega) (by omega)
    rw [hbde] at h1
    exact remainder_any _ bd W h1 hbb (by omega)
  have HJ : Hid (∀ (W : World) (f k : Nat), Below w.heap.size w W → f + k ≤ e → k ≤ 4 → Calls Try.prog 27 #[.slice a (e + 2) cap, .int .i64 (f : Int), .int .i64 (k : Int)] W fun e w' => e = .returned (.int .i64 (joinL (seg bd f k))) ∧ W = w') := fun W f k hW hf hk => by
    refine joined_any _ l W (HBY.out W hW) hb f k (by omega) hk (by omega) _ ?_
    rw [← hbde, seg_take hf]; rfl
  have HJS : Hid (∀ (W : World), Below w.heap.size w W → Calls Try.prog 27 #[.slice a (e + 2) cap, .int .i64 (e : Int), .int .i64 2] W fun e w' => e = .returned (.int .i64 (sumOf l)) ∧ W = w') := fun W hW => joined_any _ l W (HBY.out W hW) hb e 2 (by omega) (by omega) (by omega) _ hsm.symm
  obtain ⟨b, off, hab, hblt, _⟩ : ∃ b off, a = some ⟨b, off, none⟩ ∧ b < w.heap.size ∧ True := by
    obtain ⟨a', cap', hv, hc⟩ := h.get
    obtain ⟨b, off, h1, h2, _⟩ := hc 0 (by omega)
    injection hv with h3 _ _
    exact ⟨b, off, by rw [h3, h1], h2, trivial⟩
  subst hab
  have HC : Hid (∀ j, j < 3 → w.cell? ⟨b, off + j, none⟩ = some (.int .u8 (el bd j))) := fun j hj => by
    obtain ⟨a', cap', hv, hc⟩ := h.get
    obtain ⟨b', off', h1, h2, h3⟩ := hc j (by omega)
    injection hv with h4 _ _
    rw [h1] at h4
    simp only [Option.some.injEq, Addr.mk.injEq, and_true] at h4
    rw [h4.1, h4.2, h3, ← hbde, el_take (by omega)]
  have HE : Hid (∀ j, j < 3 → 0 ≤ el bd j ∧ el bd j < 256) := fun j hj => hbb _ (el_mem (by omega))
  have HA : Hid (∀ m ec, (if crcN bd ≠ sumOf l then ec = 11 ∧ m = (0, []) else (ec = 0 ∧ faultM m = 0 ∧ packB m = bd) ∨ ((∀ r, faultM r = 0 → packB r ≠ bd) ∧ ec = 3 ∧ m = (0, []))) → UnpAns l m ec) := fun m ec hh => by
    unfold UnpAns
    rw [if_neg (by omega), if_neg (by omega), hbd, hbde]
    exact hh
  have q1 : ¬ (8000 : Int) < (e : Int) + 2 := by omega
  have q2 : ¬ (e : Int) + 2 < 5 := by omega
  have q3 : (e : Int) ≤ (cap : Int) := by omega
  have hcs := crcN_range bd
  rw [he]
  clear hbd hsm hbde h hcap h5 h8 he hb
  generalize sumOf l = sm at *
  have c0 := HC.out 0 (by omega)
  have c1 := HC.out 1 (by omega)
  have c2 := HC.out 2 (by omega)
  simp only [Nat.add_zero] at c0
  have HC0 : Hid (w.cell? ⟨b, off, none⟩ = some (.int .u8 (el bd 0))) := c0
  have HC1 : Hid (w.cell? ⟨b, off + 1, none⟩ = some (.int .u8 (el bd 1))) := c1
  have HC2 : Hid (w.cell? ⟨b, off + 2, none⟩ = some (.int .u8 (el bd 2))) := c2
  clear c0 c1 c2
  by_cases hsum : crcN bd = sm
  · have HAB : Hid ((∀ r, faultM r = 0 → packB r ≠ bd) → UnpAns l (0, []) 3) := fun hh => HA.out _ _ (by rw [if_neg (by simpa using hsum)]; exact .inr ⟨hh, rfl, rfl⟩)
    have HAG : Hid (∀ m, faultM m = 0 → packB m = bd → UnpAns l m 0) := fun m h1 h2 => HA.out _ _ (by rw [if_neg (by simpa using hsum)]; exact .inl ⟨rfl, h1, h2⟩)
    have hne : (crcN bd != sm) = false := by simpa using hsum
    have b0 := HE.out 0 (by omega)
    have b1 := HE.out 1 (by omega)
    have b2 := HE.out 2 (by omega)
    have HBB : Hid (bytesB bd) := hbb
    have HBL : Hid (bd.length = e) := hbl
    have h3e : 3 ≤ e := by omega
    have HPS : Hid (Prs bd [] 3) := Prs.start (by omega)
    have HAR : Hid (∀ (sts : List St) (i : Nat), Prs bd sts i → (sts.length : Int) = el bd 1 → (∀ r, faultM r = 0 → packB r = bd → el bd 0 = 84 ∧ i = bd.length ∧ r = (el bd 2 - 1, sts)) ∧ (el bd 0 = 84 → i = bd.length → 3 ≤ bd.length → packB (el bd 2 - 1, sts) = bd)) := fun sts i hp hq => all_read hp hq
    have HNR : Hid (∀ (sts : List St) (i : Nat), Prs bd sts i → (sts.length : Int) < el bd 1 → bd.length < i + 6 → ∀ r, faultM r = 0 → packB r ≠ bd) := fun sts i hp hq h6 => no_room hp hq h6
    have HNA : Hid (∀ (sts : List St) (i many : Nat), Prs bd sts i → (sts.length : Int) < el bd 1 → i + 6 ≤ bd.length → joinL (seg bd (i + 4) 2) = many → bd.length < i + 6 + 9 * many → ∀ r, faultM r = 0 → packB r ≠ bd) := fun sts i many hp hq h6 hm h9 => no_arcs hp hq h6 hm h9
    clear hsum hbl hbb HA
    generalize crcN bd = cr at *
    generalize el bd 0 = y0 at *
    generalize el bd 1 = y1 at *
    generalize el bd 2 = y2 at *
    go_enter Try.func14, Try.ntmps14
    go_wp2_with (first
      | (go_at_call 23; (with_reducible refine (HRM.out _ (by go_grown)).mono ?_); rintro e1 w1 ⟨rfl, hbr⟩; obtain ⟨s1, bx1, hb1⟩ := boxed hbr (by simp); have HB1 : Hid (Below w.heap.size w w1) := hb1; have K1 : Hid (Blk w1 w.heap.size #[.int .i64 0, .slice none 0 0] 24) := bx1; have d0 := bx1.cell 0 (v := .int .i64 0) rfl; have d1 := bx1.cell 1 (v := .slice none 0 0) rfl; have f0 := bx1.fz 0; have f1 := bx1.fz 1; have g2 := (hb1.cell (p := ⟨b, off + 2, none⟩) hblt).trans HC2.out; clear bx1 hb1 hbr)
      | (go_at_call 27; (with_reducible refine (HJS.out _ HB1.out).mono ?_); rintro e1 w2 ⟨rfl, rfl⟩))
    go_loopw [6, 7] (fun s6 s7 wr => ∃ (i : Nat) (sts : List St) (vs : Value), s6 = .int .i64 i ∧ s7 = .int .i64 sts.length ∧ (sts.length : Int) ≤ y1 ∧ Hid (Prs bd sts i) ∧ Hid (Blk wr w1.heap.size #[.int .i64 (y2 - 1), vs] 24) ∧ Hid (OwnSts wr (w1.heap.size + 1) vs sts) ∧ Hid (Below w1.heap.size w1 wr)) (fun _ s7 _ => (y1 - intOf s7).toNat)
    case atStart => exact ⟨3, [], .slice none 0 0, rfl, rfl, by simp; omega, HPS, Blk.made w1 _ _, OwnSts.nil _ _, (Below.refl _ _).alloc (Nat.le_refl _) _⟩
    case round =>
      clear d0 d1 f0 f1 g2
      obtain ⟨i, sts, vs, rfl, rfl, hle, hp, hm, ho, hb⟩ := hrel
      have hws := hb.out.size
      have hml := hm.out.lt
      obtain ⟨av, cv, hvs⟩ := ho.out.sts.sl
      subst hvs
      have HBW : Hid (Below w.heap.size w wr) := HB1.out.trans (hb.out.mono HB1.out.size)
      have KR : Hid (Blk wr w.heap.size #[.int .i64 0, .slice none 0 0] 24) := K1.out.below hb.out K1.out.lt
      have d0 := KR.out.cell 0 (v := .int .i64 0) rfl
      have d1 := KR.out.cell 1 (v := .slice none 0 0) rfl
      have f0 := KR.out.fz 0
      have f1 := KR.out.fz 1
      have g1 := (HBW.out.cell (p := ⟨b, off + 1, none⟩) hblt).trans HC1.out
      have g0 := (HBW.out.cell (p := ⟨b, off, none⟩) hblt).trans HC0.out
      have hpi := hp.out.2.1
      rw [HBL.out] at hpi
      by_cases hlt : (sts.length : Int) < y1
      · by_cases h6 : e < i + 6
        · have HA3 : Hid (UnpAns l (0, []) 3) := HAB.out (HNR.out sts i hp.out hlt (by rw [HBL.out]; exact h6))
          have h6' : (e : Int) < (i : Int) + 6 := by omega
          go_wp2
          exact zero_postU KR.out HBW.out HA3.out rfl rfl
        · have h6' : ¬ (e : Int) < (i : Int) + 6 := by omega
          have hj4 := join_range4 (seg_bytes HBB.out i 4) (seg_len (by rw [HBL.out]; omega))
          have hj2 := join_range2 (seg_bytes HBB.out (i + 4) 2) (seg_len (by rw [HBL.out]; omega))
          obtain ⟨mn, hmn⟩ : ∃ mn : Nat, joinL (seg bd (i + 4) 2) = (mn : Int) := ⟨(joinL (seg bd (i + 4) 2)).toNat, by omega⟩
          have J4 : Hid (∀ W : World, Below w.heap.size w W → Calls Try.prog 27 #[.slice (some ⟨b, off, none⟩) (e + 2) cap, .int .i64 (i : Int), .int .i64 4] W fun e w' => e = .returned (.int .i64 (joinL (seg bd i 4))) ∧ W = w') := fun W hW => HJ.out W i 4 hW (by omega) (by omega)
          have J2 : Hid (∀ W : World, Below w.heap.size w W → Calls Try.prog 27 #[.slice (some ⟨b, off, none⟩) (e + 2) cap, .int .i64 ((i : Int) + 4), .int .i64 2] W fun e w' => e = .returned (.int .i64 (mn : Int)) ∧ W = w') := fun W hW => by
            have h9 := HJ.out W (i + 4) 2 hW (by omega) (by omega)
            rw [hmn] at h9
            exact h9
          have HPA : Hid (i + 6 + 9 * mn ≤ e → PrsA bd sts (joinL (seg bd i 4)) mn [] (i + 6)) := fun h9 => PrsA.start HBB.out hp.out (by rw [HBL.out]; omega) hmn (by rw [HBL.out]; exact h9)
          have HNA2 : Hid (e < i + 6 + 9 * mn → UnpAns l (0, []) 3) := fun h9 => HAB.out (HNA.out sts i mn hp.out hlt (by rw [HBL.out]; omega) hmn (by rw [HBL.out]; exact h9))
          have hmb : mn < 65536 := by omega
          clear hmn
          generalize joinL (seg bd i 4) = fin at *
          have HAL : Hid (∀ o, Below w.heap.size w (wr.alloc o)) := fun o => HBW.out.alloc HBW.out.size o
          have KRA := fun o => KR.out.alloc o
          have d0a := fun o => (KRA o).cell 0 (v := .int .i64 0) rfl
          have d1a := fun o => (KRA o).cell 1 (v := .slice none 0 0) rfl
          have f0a := fun o => (KRA o).fz 0
          have f1a := fun o => (KRA o).fz 1
          by_cases h9 : e < i + 6 + 9 * mn
          · have h9' : (e : Int) < (i : Int) + 6 + 9 * (mn : Int) := by omega
            have HA3 := HNA2.out h9
            have HA3' : Hid (UnpAns l (0, []) 3) := HA3
            clear HA3 KRA
            go_wp2_with (first
              | (go_at_call 27; (with_reducible refine (J4.out _ HBW.out).mono ?_); rintro e1 w5 ⟨rfl, rfl⟩)
              | (go_at_call 27; (with_reducible refine (J2.out _ (HAL.out _)).mono ?_); rintro e1 w6 ⟨rfl, rfl⟩))
            exact zero_postU (KR.out.alloc _) (HAL.out _) HA3'.out rfl rfl
          · have h9' : ¬ (e : Int) < (i : Int) + 6 + 9 * (mn : Int) := by omega
            have HP0 := HPA.out (by omega)
            have HP1 : Hid (PrsA bd sts fin mn [] (i + 6)) := HP0
            clear HP0 KRA
            go_wp2_with (first
              | (go_at_call 27; (with_reducible refine (J4.out _ HBW.out).mono ?_); rintro e1 w5 ⟨rfl, rfl⟩)
              | (go_at_call 27; (with_reducible refine (J2.out _ (HAL.out _)).mono ?_); rintro e1 w6 ⟨rfl, rfl⟩))
            obtain ⟨w3, rfl⟩ : ∃ w3, w3 = wr := ⟨_, rfl⟩
            go_loopw [6, 10] (fun s6 s10 wr => ∃ (i2 : Nat) (ar : List Ar) (va : Value), s6 = .int .i64 i2 ∧ s10 = .int .i64 ar.length ∧ ar.length ≤ mn ∧ Hid (PrsA bd sts fin mn ar i2) ∧ Hid (Blk wr w3.heap.size #[.int .i64 fin, va] 45) ∧ Hid (wr.ownsRow (w3.heap.size + 1) 53 4 va ar.length (ar.flatMap encA)) ∧ Hid (Below w3.heap.size w3 wr)) (fun _ s10 _ => mn - (intOf s10).toNat)
            case atStart => exact ⟨i + 6, [], .slice none 0 0, by go_num, rfl, Nat.zero_le _, HP1, Blk.made w3 _ _, World.ownsRow_nil _ _ _ _, (Below.refl _ _).alloc (Nat.le_refl _) _⟩
            case round =>
              clear HP1 d0a d1a f0a f1a d0 d1 f0 f1 g0 g1
              obtain ⟨i2, ar, va, rfl, rfl, hak, hpa, hsb, hva, hb3⟩ := hrel
              have hs3 := hb3.out.size
              have hsl := hsb.out.lt
              obtain ⟨aa, ca, hvaa⟩ := own_sl hva.out
              subst hvaa
              have HB3W : Hid (Below w.heap.size w wr) := HBW.out.trans (hb3.out.mono HBW.out.size)
              by_cases hjm : ar.length < mn
              · have hjm' : (ar.length : Int) < (mn : Int) := by omega
                have hi9 : i2 + 9 ≤ e := by
                  have := hpa.out.2.1
                  rw [HBL.out] at this
                  omega
                have HPN : Hid (PrsA bd sts fin mn (ar ++ [(joinL (seg bd i2 2), joinL (seg bd (i2 + 2) 2), joinL (seg bd (i2 + 4) 4), joinL (seg bd (i2 + 8) 1))]) (i2 + 9)) := PrsA.step HBB.out hpa.out hjm
                have N0 : Hid (∀ W : World, Below w.heap.size w W → Calls Try.prog 27 #[.slice (some ⟨b, off, none⟩) (e + 2) cap, .int .i64 (i2 : Int), .int .i64 2] W fun e w' => e = .returned (.int .i64 (joinL (seg bd i2 2))) ∧ W = w') := fun W hW => HJ.out W i2 2 hW (by omega) (by omega)
                have N1 : Hid (∀ W : World, Below w.heap.size w W → Calls Try.prog 27 #[.slice (some ⟨b, off, none⟩) (e + 2) cap, .int .i64 ((i2 : Int) + 2), .int .i64 2] W fun e w' => e = .returned (.int .i64 (joinL (seg bd (i2 + 2) 2))) ∧ W = w') := fun W hW => HJ.out W (i2 + 2) 2 hW (by omega) (by omega)
                have N2 : Hid (∀ W : World, Below w.heap.size w W → Calls Try.prog 27 #[.slice (some ⟨b, off, none⟩) (e + 2) cap, .int .i64 ((i2 : Int) + 4), .int .i64 4] W fun e w' => e = .returned (.int .i64 (joinL (seg bd (i2 + 4) 4))) ∧ W = w') := fun W hW => HJ.out W (i2 + 4) 4 hW (by omega) (by omega)
                have N3 : Hid (∀ W : World, Below w.heap.size w W → Calls Try.prog 27 #[.slice (some ⟨b, off, none⟩) (e + 2) cap, .int .i64 ((i2 : Int) + 8), .int .i64 1] W fun e w' => e = .returned (.int .i64 (joinL (seg bd (i2 + 8) 1))) ∧ W = w') := fun W hW => HJ.out W (i2 + 8) 1 hW (by omega) (by omega)
                generalize joinL (seg bd i2 2) = x0 at *
                generalize joinL (seg bd (i2 + 2) 2) = x1 at *
                generalize joinL (seg bd (i2 + 4) 4) = x2 at *
                generalize joinL (seg bd (i2 + 8) 1) = x3 at *
                have u2 : IntKind.i64.wrap ((i2 : Int) + 2) = (i2 : Int) + 2 := wrapI (by omega) (by omega)
                have u4 : IntKind.i64.wrap ((i2 : Int) + 4) = (i2 : Int) + 4 := wrapI (by omega) (by omega)
                have u8 : IntKind.i64.wrap ((i2 : Int) + 8) = (i2 : Int) + 8 := wrapI (by omega) (by omega)
                obtain ⟨a4, k4, w4, hr4, ho4, hb4⟩ := arc_push (W := wr.drew) (base := w3.heap.size + 1) hva.out (x0, x1, x2, x3) (by omega) (by show _ ≤ wr.heap.size; omega)
                have R4 := hid hr4
                have HO4 := hid ho4
                have HS4b : Hid (Blk w4 w3.heap.size #[.int .i64 fin, .slice aa ar.length ca] 45) := hsb.out.drew.below hb4 (Nat.lt_succ_self _)
                have HSD : HeldF w3.heap.size (.slice aa ar.length ca) wr.drew := ⟨hsb.out.cell 1 rfl, trivial⟩
                have HSA : HeldF w3.heap.size (.slice aa ar.length ca) (wr.drew.alloc (.cells #[.int .i64 x0, .int .i64 x1, .int .i64 x2, .int .i64 x3] 53)) := ⟨(hsb.out.drew.alloc _).cell 1 rfl, trivial⟩
                have HS4 : HeldF w3.heap.size (.slice aa ar.length ca) w4 := ⟨HS4b.out.cell 1 rfl, trivial⟩
                have f4 := HS4b.out.fz 1
                have c4 := HS4b.out.cell 1 (v := .slice aa ar.length ca) rfl
                have HB4 : Hid (Below w3.heap.size w3 w4) := hb3.out.drew.trans (hb4.mono (by omega))
                have HBD : Hid (Below w.heap.size w wr.drew) := HB3W.out.drew
                clear hr4 ho4 hb4
                go_wp2
                refine region_anyL (HeldF w3.heap.size (.slice aa ar.length ca)) 21 (by kernel_rfl) ?_
                refine anyL_take (i := 0) (v := ?v0_1) at0 (by kernel_rfl) (by kernel_rfl) (by kernel_rfl) (by kernel_rfl) (fun _ _ _ h => h) rfl ?y0_1 HSD ?r0_1
                case y0_1 => intro wx hx; obtain ⟨h1, h2⟩ := hx; go_simp; try (with_reducible rfl)
                simp only [Act.put, List.setIfInBounds_toArray, List.set_cons_zero, List.set_cons_succ]
                refine anyL_take (i := 1) (v := ?v1_2) (atS at0) (by kernel_rfl) (by kernel_rfl) (by kernel_rfl) (by kernel_rfl) (fun _ _ _ h => h) rfl ?y1_2 HSD ?r1_2
                case y1_2 => intro wx hx; obtain ⟨h1, h2⟩ := hx; go_simp; try (with_reducible rfl)
                simp only [Act.put, List.setIfInBounds_toArray, List.set_cons_zero, List.set_cons_succ]
                refine anyL_take (i := 2) (v := ?v2_3) (atS (atS at0)) (by kernel_rfl) (by kernel_rfl) (by kernel_rfl) (by kernel_rfl) (fun _ _ _ h => h) rfl ?y2_3 HSD ?r2_3
                case y2_3 => intro wx hx; obtain ⟨h1, h2⟩ := hx; go_simp; try (with_reducible rfl)
                simp only [Act.put, List.setIfInBounds_toArray, List.set_cons_zero, List.set_cons_succ]
                refine anyL_take (i := 3) (v := ?v3_4) (atS (atS (atS at0))) (by kernel_rfl) (by kernel_rfl) (by kernel_rfl) (by kernel_rfl) (fun _ _ _ h => h) rfl ?y3_4 HSD ?r3_4
                case y3_4 => intro wx hx; obtain ⟨h1, h2⟩ := hx; go_simp; try (with_reducible rfl)
                simp only [Act.put, List.setIfInBounds_toArray, List.set_cons_zero, List.set_cons_succ]
                refine anyL_take (i := 5) (v := ?v5_5) (atS (atS (atS (atS (atS at0))))) (by kernel_rfl) (by kernel_rfl) (by kernel_rfl) (by kernel_rfl) (fun _ _ _ h => h) rfl ?y5_5 HSD ?r5_5
                case y5_5 => intro wx hx; obtain ⟨h1, h2⟩ := hx; go_simp; try (with_reducible rfl)
                simp only [Act.put, List.setIfInBounds_toArray, List.set_cons_zero, List.set_cons_succ]
                refine anyL_take (i := 6) (v := ?v6_6) (atS (atS (atS (atS (atS (atS at0)))))) (by kernel_rfl) (by kernel_rfl) (by kernel_rfl) (by kernel_rfl) (fun _ _ _ h => h) rfl ?y6_6 HSD ?r6_6
                case y6_6 => intro wx hx; obtain ⟨h1, h2⟩ := hx; go_simp; try (with_reducible rfl)
                simp only [Act.put, List.setIfInBounds_toArray, List.set_cons_zero, List.set_cons_succ]
                refine anyL_take (i := 7) (v := ?v7_7) (atS (atS (atS (atS (atS (atS (atS at0))))))) (by kernel_rfl) (by kernel_rfl) (by kernel_rfl) (by kernel_rfl) (fun _ _ _ h => h) rfl ?y7_7 HSD ?r7_7
                case y7_7 => intro wx hx; obtain ⟨h1, h2⟩ := hx; go_simp; try (with_reducible rfl)
                simp only [Act.put, List.setIfInBounds_toArray, List.set_cons_zero, List.set_cons_succ]
                refine anyL_take (i := 9) (v := ?v9_8) (atS (atS (atS (atS (atS (atS (atS (atS (atS at0))))))))) (by kernel_rfl) (by kernel_rfl) (by kernel_rfl) (by kernel_rfl) (fun _ _ _ h => h) rfl ?y9_8 HSD ?r9_8
                case y9_8 => intro wx hx; obtain ⟨h1, h2⟩ := hx; go_simp; try (with_reducible rfl)
                simp only [Act.put, List.setIfInBounds_toArray, List.set_cons_zero, List.set_cons_succ]
                refine anyL_take (i := 10) (v := ?v10_9) (atS (atS (atS (atS (atS (atS (atS (atS (atS (atS at0)))))))))) (by kernel_rfl) (by kernel_rfl) (by kernel_rfl) (by kernel_rfl) (fun _ _ _ h => h) rfl ?y10_9 HSD ?r10_9
                case y10_9 => intro wx hx; obtain ⟨h1, h2⟩ := hx; go_simp; try (with_reducible rfl)
                simp only [Act.put, List.setIfInBounds_toArray, List.set_cons_zero, List.set_cons_succ]
                refine anyL_take (i := 11) (v := ?v11_10) (atS (atS (atS (atS (atS (atS (atS (atS (atS (atS (atS at0))))))))))) (by kernel_rfl) (by kernel_rfl) (by kernel_rfl) (by kernel_rfl) (fun _ _ _ h => h) rfl ?y11_10 HSD ?r11_10
                case y11_10 => intro wx hx; obtain ⟨h1, h2⟩ := hx; go_simp; try (with_reducible rfl)
                simp only [Act.put, List.setIfInBounds_toArray, List.set_cons_zero, List.set_cons_succ]
                refine anyL_take (i := 13) (v := ?v13_11) (atS (atS (atS (atS (atS (atS (atS (atS (atS (atS (atS (atS (atS at0))))))))))))) (by kernel_rfl) (by kernel_rfl) (by kernel_rfl) (by kernel_rfl) (fun _ _ _ h => h) rfl ?y13_11 HSD ?r13_11
                case y13_11 => intro wx hx; obtain ⟨h1, h2⟩ := hx; go_simp; try (with_reducible rfl)
                simp only [Act.put, List.setIfInBounds_toArray, List.set_cons_zero, List.set_cons_succ]
                refine anyL_take (i := 14) (v := ?v14_12) (atS (atS (atS (atS (atS (atS (atS (atS (atS (atS (atS (atS (atS (atS at0)))))))))))))) (by kernel_rfl) (by kernel_rfl) (by kernel_rfl) (by kernel_rfl) (fun _ _ _ h => h) rfl ?y14_12 HSD ?r14_12
                case y14_12 => intro wx hx; obtain ⟨h1, h2⟩ := hx; go_simp; try (with_reducible rfl)
                simp only [Act.put, List.setIfInBounds_toArray, List.set_cons_zero, List.set_cons_succ]
                refine anyL_take (i := 15) (v := ?v15_13) (atS (atS (atS (atS (atS (atS (atS (atS (atS (atS (atS (atS (atS (atS (atS at0))))))))))))))) (by kernel_rfl) (by kernel_rfl) (by kernel_rfl) (by kernel_rfl) (fun _ _ _ h => h) rfl ?y15_13 HSD ?r15_13
                case y15_13 => intro wx hx; obtain ⟨h1, h2⟩ := hx; go_simp; try (with_reducible rfl)
                simp only [Act.put, List.setIfInBounds_toArray, List.set_cons_zero, List.set_cons_succ]
                refine anyL_one (i := 4) (atS (atS (atS (atS at0)))) (by kernel_rfl) rfl (fun K hK => ?_)
                go_simp
                refine (N0.out _ HBD.out).mono ?_
                rintro e1 w5 ⟨rfl, rfl⟩
                refine hK _ _ (.inr HSD) ?_
                try simp only [Act.put, List.setIfInBounds_toArray, List.set_cons_zero, List.set_cons_succ]
                refine anyL_one (i := 8) (atS (atS (atS (atS (atS (atS (atS (atS at0)))))))) (by kernel_rfl) rfl (fun K hK => ?_)
                go_simp
                refine (N1.out _ HBD.out).mono ?_
                rintro e1 w5 ⟨rfl, rfl⟩
                refine hK _ _ (.inr HSD) ?_
                try simp only [Act.put, List.setIfInBounds_toArray, List.set_cons_zero, List.set_cons_succ]
                refine anyL_one (i := 12) (atS (atS (atS (atS (atS (atS (atS (atS (atS (atS (atS (atS at0)))))))))))) (by kernel_rfl) rfl (fun K hK => ?_)
                go_simp
                refine (N2.out _ HBD.out).mono ?_
                rintro e1 w5 ⟨rfl, rfl⟩
                refine hK _ _ (.inr HSD) ?_
                try simp only [Act.put, List.setIfInBounds_toArray, List.set_cons_zero, List.set_cons_succ]
                refine anyL_one (i := 16) (atS (atS (atS (atS (atS (atS (atS (atS (atS (atS (atS (atS (atS (atS (atS (atS at0)))))))))))))))) (by kernel_rfl) rfl (fun K hK => ?_)
                go_simp
                refine (N3.out _ HBD.out).mono ?_
                rintro e1 w5 ⟨rfl, rfl⟩
                refine hK _ _ (.inr HSD) ?_
                try simp only [Act.put, List.setIfInBounds_toArray, List.set_cons_zero, List.set_cons_succ]
                refine anyL_take (i := 17) (v := ?v17_14) (atS (atS (atS (atS (atS (atS (atS (atS (atS (atS (atS (atS (atS (atS (atS (atS (atS at0))))))))))))))))) (by kernel_rfl) (by kernel_rfl) (by kernel_rfl) (by kernel_rfl) (fun _ _ _ h => h) rfl ?y17_14 HSD ?r17_14
                case y17_14 => intro wx hx; obtain ⟨h1, h2⟩ := hx; go_simp; try (with_reducible rfl)
                simp only [Act.put, List.setIfInBounds_toArray, List.set_cons_zero, List.set_cons_succ]
                refine anyL_one (i := 18) (atS (atS (atS (atS (atS (atS (atS (atS (atS (atS (atS (atS (atS (atS (atS (atS (atS (atS at0)))))))))))))))))) (by kernel_rfl) rfl (fun K hK => ?_)
                go_simp
                refine hK _ _ (.inr HSA) ?_
                try simp only [Act.put, List.setIfInBounds_toArray, List.set_cons_zero, List.set_cons_succ]
                refine anyL_one (i := 19) (atS (atS (atS (atS (atS (atS (atS (atS (atS (atS (atS (atS (atS (atS (atS (atS (atS (atS (atS at0))))))))))))))))))) (by kernel_rfl) rfl (fun K hK => ?_)
                refine wp_append_run (.tmp 73) (.tmp 90) 43 rfl rfl rfl R4.out ?_
                refine hK _ _ (.inr HS4) ?_
                try simp only [Act.put, List.setIfInBounds_toArray, List.set_cons_zero, List.set_cons_succ]
                refine anyL_one (i := 20) (atS (atS (atS (atS (atS (atS (atS (atS (atS (atS (atS (atS (atS (atS (atS (atS (atS (atS (atS (atS at0)))))))))))))))))))) (by kernel_rfl) rfl (fun K hK => ?_)
                go_simp
                refine hK _ _ (.inr HS4) ?_
                try simp only [Act.put, List.setIfInBounds_toArray, List.set_cons_zero, List.set_cons_succ]
                refine anyL_one (i := 21) (atS (atS (atS (atS (atS (atS (atS (atS (atS (atS (atS (atS (atS (atS (atS (atS (atS (atS (atS (atS (atS at0))))))))))))))))))))) (by kernel_rfl) rfl (fun K hK => ?_)
                go_simp
                refine hK _ _ (.inl rfl) (anyL_done (by kernel_rfl) (NoPanic.normal ?_))
                try simp only [Act.put, List.setIfInBounds_toArray, List.set_cons_zero, List.set_cons_succ]
                clear HSD HSA HS4
                go_wp2
                go_roundw
                case rel => exact ⟨i2 + 9, ar ++ [(x0, x1, x2, x3)], _, by go_num, by simp, by simp; omega, HPN, HS4b.out.set 1 _, ownsRow_setCell_below HO4.out (a := ⟨w3.heap.size, 1, none⟩) (Nat.lt_succ_self _) _, HB4.out.setCell (p := ⟨w3.heap.size, 1, none⟩) (Nat.le_refl _) _⟩
                case measure => simp [intOf]; omega
              · have hjm' : ¬ (ar.length : Int) < (mn : Int) := by omega
                have HPD : Hid (Prs bd (sts ++ [(fin, ar)]) i2) := hpa.out.done (by omega)
                have hB' : Below w3.heap.size w3 wr := hb3.out
                have KM : Hid (Blk wr w1.heap.size #[.int .i64 (y2 - 1), .slice av sts.length cv] 24) := hm.out.below hB' hml
                have m1 := KM.out.cell 1 (v := .slice av sts.length cv) rfl
                have s0 := hsb.out.cell 0 (v := .int .i64 fin) rfl
                have s1' := hsb.out.cell 1 (v := .slice aa ar.length ca) rfl
                obtain ⟨v5, w5, hr5, ho5, hb5⟩ := run_push (W := wr.alloc (.cells #[.int .i64 fin, .slice aa ar.length ca] 45)) (w1 := wr) (fin, ar) sts (.slice aa ar.length ca) (.slice av sts.length cv) (w1.heap.size + 1) rfl rfl rfl rfl (ho.out.kept (grownB hB')) (ownMono hva.out (by omega)) (by omega) (by omega)
                obtain ⟨a5, c5, hv5⟩ := ho5.sts.sl
                rw [show (sts ++ [(fin, ar)]).length = sts.length + 1 from by simp] at hv5
                subst hv5
                have R5 := hid hr5
                have HO5 := hid ho5
                have KM5 : Hid (Blk w5 w1.heap.size #[.int .i64 (y2 - 1), .slice av sts.length cv] 24) := KM.out.below hb5 (Nat.lt_succ_self _)
                have n1 := KM5.out.cell 1 (v := .slice av sts.length cv) rfl
                have nf := KM5.out.fz 1
                have HB5 : Hid (Below w1.heap.size w1 w5) := (hb.out.trans (hB'.mono hws)).trans (hb5.mono (by omega))
                clear hr5 ho5 hb5 hB'
                go_wp2_with (first
                  | (at_builtin; refine wpListAppendRun rfl _ _ 22 rfl rfl rfl R5.out ?_))
                go_roundw
                case rel => exact ⟨i2, sts ++ [(fin, ar)], _, rfl, by simp, by simp; omega, HPD, KM5.out.set 1 _, HO5.out.setCell (a := ⟨w1.heap.size, 1, none⟩) (Nat.lt_succ_self _) _, HB5.out.setCell (p := ⟨w1.heap.size, 1, none⟩) (Nat.le_refl _) _⟩
                case measure => simp [intOf]; omega
      · have hnl : ¬ (sts.length : Int) < y1 := hlt
        obtain ⟨hr1, hr2⟩ := HAR.out sts i hp.out (by omega)
        have HM : Hid (Mach wr (.agg #[.int .i64 (y2 - 1), .slice av sts.length cv]) (y2 - 1, sts)) := ⟨_, rfl, ho.out.sts⟩
        have HOK : Hid (okM (y2 - 1, sts)) := ⟨by simp only; omega, fun j hj => by
          have := (hp.out.2.2.2 (el sts j) (el_mem hj)).2.1
          simp only
          omega⟩
        have m0 := hm.out.cell 0 (v := .int .i64 (y2 - 1)) rfl
        have m1 := hm.out.cell 1 (v := .slice av sts.length cv) rfl
        by_cases h84 : y0 = 84
        · have e84 : (y0 != 84) = false := by simpa using h84
          by_cases hie : i = e
          · have eie : ((i : Int) != (e : Int)) = false := bne_eq_false_iff_eq.2 (by omega)
            obtain ⟨r, hr⟩ : ∃ r, faultM (y2 - 1, sts) = r := ⟨_, rfl⟩
            have HF : Hid (faultM (y2 - 1, sts) = r) := hr
            by_cases h0 : r = 0
            · subst h0
              have HA4 : Hid (UnpAns l (y2 - 1, sts) 0) := HAG.out _ hr (hr2 h84 (by rw [HBL.out]; exact hie) (by rw [HBL.out]; exact h3e))
              clear hr hr1 hr2
              go_wp2_with (first
                | (go_at_call 21; (with_reducible refine (fault_any _ (y2 - 1, sts) _ HM.out HOK.out 0 HF.out).mono ?_); rintro e1 w5 ⟨rfl, hb5⟩; have KR5 : Hid (Blk w5 w.heap.size #[.int .i64 0, .slice none 0 0] 24) := KR.out.below hb5 KR.out.lt; have HM5 : Hid (Blk w5 w1.heap.size #[.int .i64 (y2 - 1), .slice av sts.length cv] 24) := hm.out.below hb5 hml; have HO5 : Hid (OwnSts w5 (w1.heap.size + 1) (.slice av sts.length cv) sts) := ho.out.kept (grownB hb5); have HB5 : Hid (Below w.heap.size w w5) := HBW.out.trans (hb5.mono HBW.out.size); have d0 := KR5.out.cell 0 (v := .int .i64 0) rfl; have d1 := KR5.out.cell 1 (v := .slice none 0 0) rfl; have f0 := KR5.out.fz 0; have f1 := KR5.out.fz 1; have m0 := HM5.out.cell 0 (v := .int .i64 (y2 - 1)) rfl; have m1 := HM5.out.cell 1 (v := .slice av sts.length cv) rfl; clear hb5))
              refine bodyPost_ret (res_machU _ _ w.heap.size (y2 - 1) 0 _ (blk_twoU KR5.out) rfl rfl) rfl ⟨_, (y2 - 1, sts), 0, rfl, ⟨_, rfl, ((HO5.out.setCell (a := ⟨w.heap.size, 0, none⟩) (by show w.heap.size < _; omega) _).setCell (a := ⟨w.heap.size, 1, none⟩) (by show w.heap.size < _; omega) _).sts⟩, HA4.out, (HB5.out.setCell (Nat.le_refl _) _).setCell (Nat.le_refl _) _⟩
            · have e0 : (r != 0) = true := bne_iff_ne.2 h0
              have HA3 : Hid (UnpAns l (0, []) 3) := HAB.out (fun r' h1 h2 => h0 (by rw [← hr, ← (hr1 r' h1 h2).2.2]; exact h1))
              clear hr hr1 hr2
              go_wp2_with (first
                | (go_at_call 21; (with_reducible refine (fault_any _ (y2 - 1, sts) _ HM.out HOK.out r HF.out).mono ?_); rintro e1 w5 ⟨rfl, hb5⟩; have KR5 : Hid (Blk w5 w.heap.size #[.int .i64 0, .slice none 0 0] 24) := KR.out.below hb5 KR.out.lt; have HB5 : Hid (Below w.heap.size w w5) := HBW.out.trans (hb5.mono HBW.out.size); have d0 := KR5.out.cell 0 (v := .int .i64 0) rfl; have d1 := KR5.out.cell 1 (v := .slice none 0 0) rfl; have f0 := KR5.out.fz 0; have f1 := KR5.out.fz 1; clear hb5))
              exact zero_postU KR5.out HB5.out HA3.out rfl rfl
          · have eie : ((i : Int) != (e : Int)) = true := bne_iff_ne.2 (by omega)
            have HA3 : Hid (UnpAns l (0, []) 3) := HAB.out (fun r' h1 h2 => hie (by rw [← HBL.out]; exact (hr1 r' h1 h2).2.1))
            clear hr1 hr2
            go_wp2
            exact zero_postU KR.out HBW.out HA3.out rfl rfl
        · have e84 : (y0 != 84) = true := bne_iff_ne.2 h84
          have HA3 : Hid (UnpAns l (0, []) 3) := HAB.out (fun r' h1 h2 => h84 (hr1 r' h1 h2).1)
          clear hr1 hr2
          go_wp2
          exact zero_postU KR.out HBW.out HA3.out rfl rfl
  · have HA1 : Hid (UnpAns l (0, []) 11) := HA.out _ _ (by rw [if_pos hsum]; exact ⟨rfl, rfl⟩)
    have hne : (crcN bd != sm) = true := bne_iff_ne.2 hsum
    generalize crcN bd = cr at *
    go_enter Try.func14, Try.ntmps14
    go_wp2_with (first
      | (go_at_call 23; (with_reducible refine (HRM.out _ (by go_grown)).mono ?_); rintro e1 w1 ⟨rfl, hbr⟩; obtain ⟨s1, b1, hb1⟩ := boxed hbr (by simp); have HB1 : Hid (Below w.heap.size w w1) := hb1; have K1 : Hid (Blk w1 w.heap.size #[.int .i64 0, .slice none 0 0] 24) := b1; have d0 := b1.cell 0 (v := .int .i64 0) rfl; have d1 := b1.cell 1 (v := .slice none 0 0) rfl; have f0 := b1.fz 0; have f1 := b1.fz 1; clear b1 hb1 hbr)
      | (go_at_call 27; (with_reducible refine (HJS.out _ HB1.out).mono ?_); rintro e1 w2 ⟨rfl, rfl⟩))
    exact zero_postU K1.out HB1.out HA1.out rfl rfl
theorem unpackedR_any (a : Option Addr) (cap : Nat) (l : List Int) (w : World) (h : Bys w (.slice a l.length cap) l) (hb : bytesB l) (hcap : l.length ≤ cap) :
    Calls Try.prog 14 #[.slice a l.length cap] w fun e w' => UnpRes l w e w' := by
  by_cases h8 : 8000 < l.length
  · exact unpackedR_long a cap l w h8
  · by_cases h5 : l.length < 5
    · exact unpackedR_short a cap l w h5
    · exact unpackedR_main a cap l w h hb hcap (by omega) (by omega)
end Go.Proofs.Ytbbjpdadickilaa.Wt
