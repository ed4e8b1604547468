/- The program's empties.Remove. -/
import Derived.Test.YtjpfpdbhdcopbaaEm
import Derived.Test.YtjpfpdbhdcopbaaJ14w
import Derived.Test.YtjpfpdbhdcopbaaJ14m
import Derived.Test.YtjpfpdbhdcopbaaJ14b
import Derived.Test.YtjpfpdbhdcopbaaJ14h
namespace Go.Proofs.Ytjpfpdbhdcopbaa.Wt
open Go.ChangeShapes Go.WideShapes Go.ChangeAt Go.RowKit
open Go.Proofs.Ytjpfpdbhdcopbaa.Pl
set_option linter.unusedVariables false
set_option linter.unusedSimpArgs false
theorem GridP.setO {w : World} {base n G : Nat} {gs : List Nat} {d : List (List Int)} (h : GridP w base n G gs d) {b : Nat} (hb : b < base) (o : Nat) (v : Value) : GridP (w.setCell ⟨b, o, none⟩ v) base n G gs d := h.keep fun k hk _ => Below.heap_setCell w _ _ k (by show k ≠ b; omega)
set_option maxRecDepth 100000 in
set_option maxHeartbeats 1600000 in
theorem removeP_bad (v : Value) (m : Mc) (w : World) (h : Mach w v m) (hok : okM m) (r : Int) (hr : faultM m = r) (h0 : r ≠ 0) :
    Calls Try.prog 7 #[v] w fun e w' => RatRes (0, []) r w e w' := by
  obtain ⟨z, l⟩ := m
  obtain ⟨vs, rfl, hS⟩ := h
  obtain ⟨a, cap, rfl⟩ := hS.sl
  have HM : Hid (Mach w (.agg #[.int .i64 z, .slice a l.length cap]) (z, l)) := ⟨_, rfl, hS⟩
  have HK : Hid (okM (z, l)) := hok
  have HR : Hid (faultM (z, l) = r) := hr
  have hne : (r != 0) = true := by simpa using h0
  clear hS hok hr h0
  simp only
  generalize l.length = n at *
  go_enter Try.func7, Try.ntmps7
  go_wp2_with (first
      | (go_at_call 16; (with_reducible refine (coreCheck_any _ (z, l) _ (HM.out.later (B := w.heap.size) (by go_grown) (Nat.le_refl _)) HK.out _ HR.out).mono ?_); rintro e w1 ⟨rfl, hb⟩; obtain ⟨s1, k0, k1, hb1⟩ := boxedTwo hb (by simp); have HB1 : Hid (Below w.heap.size w w1) := hb1; have e0 := k1.cell 0 (v := .int .i64 0) rfl; have e1 := k1.cell 1 (v := .slice none 0 0) rfl; have e2 := k1.fz 0; have e3 := k1.fz 1; clear hb hb1 k0 k1))
  exact bodyPost_ret (v := .tuple #[.agg #[.int .i64 0, .slice none 0 0], .int .i64 r]) (by simp [results, Try.results7, go_sem, *]) rfl ⟨_, rfl, mach_zeroR _, by have h := HB1.out; go_grown⟩
set_option maxRecDepth 100000 in
set_option maxHeartbeats 6400000 in
theorem removeP_ok (v : Value) (m : Mc) (w : World) (h : Mach w v m) (hok : okM m) (hr : faultM m = 0) (H : Nat → Nat → Int) (hH : HopT m H) :
    Calls Try.prog 7 #[v] w fun e w' => RatRes (if ovTo H m.2 m.2.length = true then (0, []) else fitM (remM H m)) (if ovTo H m.2 m.2.length = true then 4 else fitE (remM H m)) w e w' := by
  obtain ⟨z, l⟩ := m
  obtain ⟨vs, rfl, hS⟩ := h
  obtain ⟨a, cap, rfl⟩ := hS.sl
  have h60 : l.length ≤ 60 := (right_size hr).1
  have HM : Hid (Mach w (.agg #[.int .i64 z, .slice a l.length cap]) (z, l)) := ⟨_, rfl, hS⟩
  have HK : Hid (okM (z, l)) := hok
  have HR : Hid (faultM (z, l) = 0) := hr
  have HHB : Hid (∀ q p, q < l.length → p < l.length → 0 ≤ H q p ∧ (H q p = noneI ∨ H q p ≤ 100000000000)) := fun q p hq hp => (hH q p hq hp).bd
  have HHO : Hid (∀ K : Nat → Nat → Int, HopT (z, l) K → ∀ q p, q < l.length → p < l.length → H q p = K q p) := fun K hK q p hq hp => (hH q p hq hp).one (hK q p hq hp)
  have HHP := hidP (fun (W : World) (hW : Mach W (.agg #[.int .i64 z, .slice a l.length cap]) (z, l)) => hopsOf_any z l a cap W hW hr)
  have HGA := hidP (fun g q (r : List Int) (W : World) (hW : Mach W (.agg #[.int .i64 z, .slice a l.length cap]) (z, l)) hg hrl (hq : q < l.length) hH => gathered_any z l a cap g q r H W hW hr hg hrl hH (fun p hp => HHB.out q p hq hp))
  have HTS : Hid (∀ k, k < l.length → arcN ((gatM H (z, l)).2.take (k + 1)) = arcN ((gatM H (z, l)).2.take k) + (ligL (remArc H l k l.length)).length) := fun k hk => gat_take H (z, l) hk
  have HTL : Hid (∀ k, (ligL (remArc H l k l.length)).length ≤ 400) := fun k => gat_len400 (m := (z, l)) hr H k
  have HTB : Hid (∀ k, k ≤ l.length → arcN ((gatM H (z, l)).2.take k) ≤ k * 400) := fun k hk => by
    induction k with
    | zero => simp [arcN]
    | succ k ih =>
      rw [HTS.out k (by omega)]
      have := HTL.out k
      have := ih (by omega)
      omega
  have HTE : Hid (arcN ((gatM H (z, l)).2.take l.length) = arcN (gatM H (z, l)).2) := by show _ = _; rw [List.take_of_length_le (by rw [gat_len]; exact Nat.le_refl _)]
  have HTR : Hid (arcN (gatM H (z, l)).2 = arcN (remM H (z, l)).2) := gat_arcN H (z, l)
  have HGR : Hid (ovTo H l l.length = false → arcN (gatM H (z, l)).2 ≤ 400 → faultM (gatM H (z, l)) = 0) := fun ho hs => gat_right (m := (z, l)) hr (fun q p hq hp => HHB.out q p hq hp) ho hs
  have HGK : Hid (okM (gatM H (z, l))) := gat_okM hr H
  have HGE : Hid (∀ q, q < l.length → el (gatM H (z, l)).2 q = (tldN (remFin H l q l.length), ligL (remArc H l q l.length))) := fun q hq => gat_el H (z, l) hq
  have HGL : Hid ((gatM H (z, l)).2.length = l.length) := gat_len H (z, l)
  have HGS : Hid (mapM (sortS false) (gatM H (z, l)) = remM H (z, l)) := gat_sort H (z, l)
  have HG1 : Hid ((gatM H (z, l)).1 = z) := rfl
  have HRL : Hid ((remM H (z, l)).2.length = l.length) := rem_len H (z, l)
  have HOS : Hid (∀ k, ovTo H l (k + 1) = (ovTo H l k || ovB H l k)) := fun k => rfl
  have HOT : Hid (∀ k, k < l.length → ovB H l k = true → ovTo H l l.length = true) := fun k hk g => ovTo_true hk g
  have HO0 : Hid (ovTo H l 0 = false) := rfl
  have HT0 : Hid (arcN ((gatM H (z, l)).2.take 0) = 0) := by show _ = _; simp [arcN]
  have HSB : Hid (∀ M : Mc, M.2.length = l.length → sizeB M = decide (arcN M.2 ≤ 400)) := fun M hM => by simp [sizeB, hM, h60]
  clear hS hok hr hH
  simp only
  generalize gatM H (z, l) = GM at *
  generalize remM H (z, l) = RM at *
  generalize hn : l.length = n at *
  have HN := hidP hn
  clear hn
  obtain ⟨RX, hRX⟩ : ∃ RX, (if ovTo H l n = true then (0, []) else fitM RM) = RX := ⟨_, rfl⟩
  obtain ⟨RE, hRE⟩ : ∃ RE, (if ovTo H l n = true then 4 else fitE RM) = RE := ⟨_, rfl⟩
  rw [hRX, hRE]
  have HXO : Hid (ovTo H l n = true → RX = (0, []) ∧ RE = 4) := fun g => by rw [if_pos g] at hRX hRE; exact ⟨hRX.symm, hRE.symm⟩
  have HXN : Hid (ovTo H l n = false → RX = fitM RM ∧ RE = fitE RM) := fun g => by
    have g' : ¬ ovTo H l n = true := by rw [g]; simp
    rw [if_neg g'] at hRX hRE
    exact ⟨hRX.symm, hRE.symm⟩
  clear hRX hRE
  have hmk := run_states n (by omega)
  go_enter Try.func7, Try.ntmps7
  go_wp2_with (first
      | (go_at_call 16; (with_reducible refine (coreCheck_any _ (z, l) _ (HM.out.later (B := w.heap.size) (by go_grown) (Nat.le_refl _)) HK.out _ HR.out).mono ?_); rintro e w1 ⟨rfl, hb⟩; obtain ⟨s1, k0, k1, hb1⟩ := boxedTwo hb (by simp); have HB1 : Hid (Below w.heap.size w w1) := hb1; have K0 : Hid (Blk w1 w.heap.size #[.int .i64 z, .slice a n cap] 24) := k0; have K1 : Hid (Blk w1 (w.heap.size + 1) #[.int .i64 0, .slice none 0 0] 24) := k1; have c0 := k0.cell 0 (v := .int .i64 z) rfl; have c1 := k0.cell 1 (v := .slice a n cap) rfl; have s2 : w.heap.size < w1.heap.size := (by omega); have s3 : w.heap.size + 1 < w1.heap.size := (by omega); clear hb hb1 k0 k1)
      | (go_at_call 17; (with_reducible refine (HHP.out _ (HM.out.later (B := w.heap.size) (by have h := HB1.out; go_grown) (Nat.le_refl _))).mono ?_); rintro e w2 ⟨rfl, ⟨gs, d, hG, hdl, hHT⟩, hb2⟩; have HG := hidP hG; have HHE := hidP (HHO.out _ hHT); have HB2 := hidP hb2; clear hG hHT hb2))
  simp only [World.size_alloc] at HG HB2
  clear hmk c0 c1
  have hNA : Below w1.heap.size w1 (w1.alloc (.cells ((List.replicate n ((0 : Int), Value.slice none 0 0)).flatMap encS).toArray 46)) := (Below.refl _ _).alloc (Nat.le_refl _) _
  have hB12 : Below w1.heap.size w1 w2 := hNA.trans (HB2.out.mono (by omega))
  have hBS : Blk w2 w1.heap.size ((List.replicate n ((0 : Int), Value.slice none 0 0)).flatMap encS).toArray 46 := (Blk.made w1 _ _).below HB2.out (by omega)
  have HBS := hidP hBS
  have HB3 := hidP (HB1.out.trans (hB12.mono HB1.out.size))
  have K02 := hidP (K0.out.below hB12 s2)
  have K12 := hidP (K1.out.below hB12 s3)
  have hs2 : w1.heap.size + 1 ≤ w2.heap.size := by have := HB2.out.size; simp at this; omega
  clear hNA hB12 hBS HB1 HB2 K0 K1
  go_loopw [6, 24] (fun av i wr => ∃ (k : Nat) (vs : List (Int × Value)), k ≤ n ∧ av = .int .i64 ((arcN (GM.2.take k) : Nat) : Int) ∧ i = .int .i64 k ∧ vs.length = n ∧ Hid (ovTo H l k = false) ∧ Hid (Blk wr w1.heap.size (vs.flatMap encS).toArray 46) ∧ Hid (∀ j, j < k → (el vs j).1 = tldN (remFin H l j n) ∧ wr.ownsRow (w1.heap.size + 1) 53 4 (el vs j).2 (ligL (remArc H l j n)).length ((ligL (remArc H l j n)).flatMap encA)) ∧ Hid (GridP wr (w1.heap.size + 1 + 1) n (w1.heap.size + 1 + 1) gs d) ∧ Hid (Blk wr w.heap.size #[.int .i64 z, .slice a n cap] 24) ∧ Hid (Blk wr (w.heap.size + 1) #[.int .i64 0, .slice none 0 0] 24) ∧ Hid (Below w.heap.size w wr) ∧ w1.heap.size + 1 ≤ wr.heap.size) (fun _ i _ => n - (intOf i).toNat)
  case atStart => exact ⟨0, List.replicate n ((0 : Int), Value.slice none 0 0), Nat.zero_le _, by rw [HT0.out]; rfl, rfl, by simp, HO0, HBS, fun j hj => absurd hj (Nat.not_lt_zero _), HG, K02, K12, HB3, hs2⟩
  case round =>
    clear HG K02 K12 HB3 hs2 HBS
    obtain ⟨k, vs, hk, rfl, rfl, hvl, hov, hbs, hold, hG, hk0, hk1, hb, hws⟩ := hrel
    obtain ⟨w4, hw4⟩ : ∃ w4, w4 = wr := ⟨_, rfl⟩
    subst hw4
    have HV := hidP hvl
    have harc := HTB.out k hk
    by_cases hlt : k < n
    · have k0' : (0 : Int) ≤ (k : Int) := Int.natCast_nonneg _
      have k1' : (k : Int) < (n : Int) := by omega
      have cG := hG.out.rowc (q := k) (by omega)
      have hgr := hG.out.row k (by rw [hG.out.len]; omega)
      have HCG := hidP (HGA.out (el gs k) k (el d k) w4 (HM.out.later hb.out (Nat.le_refl _)) hgr.2.2 hgr.2.1 hlt (fun p hp => HHE.out k p hlt hp))
      have m0 := hk0.out.cell 0 (v := .int .i64 z) rfl
      have m1 := hk0.out.cell 1 (v := .slice a n cap) rfl
      have HTSk := hidP (HTS.out k hlt)
      have HTLk := HTL.out k
      have HOk := hidP (HOT.out k hlt)
      have HOSk := hidP (HOS.out k)
      clear hgr
      generalize el gs k = Bq at *
      rcases Bool.eq_false_or_eq_true (ovB H l k) with ho | ho
      · -- over
        have HCO : Hid (Calls Try.prog 18 #[.agg #[.int .i64 z, .slice a n cap], .slice (some ⟨Bq, 0, none⟩) n n] w4 fun e w' => e = .returned (.tuple #[.agg #[.int .i64 0, .slice none 0 0], .int .i64 4]) ∧ Below w4.heap.size w4 w') := HCG.out.mono fun e w' hg => by
          obtain ⟨hg, hb⟩ := hg
          rcases hg with ⟨_, g⟩ | ⟨g, _⟩
          · exact ⟨g, hb⟩
          · rw [ho] at g; cases g
        have HOV := hidP (HOk.out ho)
        clear ho HCG
        go_wp2_with (first
          | (go_at_call 18; (with_reducible refine HCO.out.mono ?_); rintro e w5 ⟨rfl, hb5⟩; have k5 := hk1.out.below hb5 hk1.out.lt; have r0 := k5.cell 0 (v := .int .i64 0) rfl; have r1 := k5.cell 1 (v := .slice none 0 0) rfl; have f0 := k5.fz 0; have f1 := k5.fz 1; have s5 := k5.lt; have HB5 := hidP (hb.out.trans (hb5.mono hb.out.size)); clear k5 hb5))
        refine bodyPost_ret (v := .tuple #[.agg #[.int .i64 0, .slice none 0 0], .int .i64 4]) (by simp [results, Try.results7, go_sem, *]) rfl ?_
        rw [(HXO.out HOV.out).1, (HXO.out HOV.out).2]
        exact ⟨_, rfl, mach_zeroR _, by have h := HB5.out; go_grown⟩
      · have HCO : Hid (Calls Try.prog 18 #[.agg #[.int .i64 z, .slice a n cap], .slice (some ⟨Bq, 0, none⟩) n n] w4 fun e w' => ∃ x c, e = .returned (.tuple #[.agg #[.int .i64 (tldN (remFin H l k n)), .slice x (ligL (remArc H l k n)).length c], .int .i64 0]) ∧ OwnArcs w' w4.heap.size (.slice x (ligL (remArc H l k n)).length c) (ligL (remArc H l k n)) ∧ Below w4.heap.size w4 w') := HCG.out.mono fun e w' hg => by
          obtain ⟨hg, hb⟩ := hg
          rcases hg with ⟨g, _⟩ | ⟨_, va, g, hO⟩
          · rw [ho] at g; cases g
          · rw [HN.out] at g hO
            obtain ⟨x, c, rfl⟩ := hO.sl
            exact ⟨x, c, g, hO, hb⟩
        have HOV : Hid (ovTo H l (k + 1) = false) := by show _ = _; rw [HOSk.out, hov.out, ho]; rfl
        clear ho HCG
        have HTI := hidP (HTB.out (k + 1) (by omega))
        obtain ⟨fn, hfn⟩ : ∃ fn, tldN (remFin H l k n) = fn := ⟨_, rfl⟩
        have HFN := hidP hfn
        obtain ⟨LN, hLN⟩ : ∃ LN, ligL (remArc H l k n) = LN := ⟨_, rfl⟩
        have HLN := hidP hLN
        rw [hfn, hLN] at HCO
        rw [hLN] at HTSk HTLk
        clear hfn hLN
        obtain ⟨tk, htk⟩ : ∃ tk, arcN (GM.2.take k) = tk := ⟨_, rfl⟩
        rw [htk] at HTSk harc ⊢
        clear htk
        generalize hnl : LN.length = nl at *
        have HNL := hidP hnl
        clear hnl
        have t0 : (0 : Int) ≤ (tk : Int) := by omega
        have hwr : IntKind.i64.wrap ((tk : Int) + (nl : Int)) = (tk : Int) + (nl : Int) := wrapI (by omega) (by omega)
        go_wp2_with (first
          | (go_at_call 18; (with_reducible refine HCO.out.mono ?_); rintro e w5 ⟨xa, xc, rfl, hO5, hb5⟩; have HB5 := hidP hb5; have HO5 := hidP hO5; have hbs5 := hbs.out.below hb5 (by omega); have e0 := hbs5.cell (k * 2) (v := .int .i64 (el vs k).1) (by rw [List.getElem?_toArray]; exact flat_at encS_len vs k (by rw [HV.out]; omega) 0 (by omega)); have e1 := hbs5.cell (k * 2 + 1) (v := (el vs k).2) (by rw [List.getElem?_toArray]; exact flat_at encS_len vs k (by rw [HV.out]; omega) 1 (by omega)); have f0 := hbs5.fz (k * 2); have f1 := hbs5.fz (k * 2 + 1); have s5 : w1.heap.size < w5.heap.size := hbs5.lt; have HBS5 := hidP hbs5; clear hbs5 hb5 hO5))
        go_roundw
        case rel =>
          have hA : Below (w5.setCell ⟨w1.heap.size, k * 2, none⟩ (.int .i64 fn) |>.setCell ⟨w1.heap.size, k * 2 + 1, none⟩ (.slice xa nl xc)).heap.size (w5.setCell ⟨w1.heap.size, k * 2, none⟩ (.int .i64 fn) |>.setCell ⟨w1.heap.size, k * 2 + 1, none⟩ (.slice xa nl xc)) ((w5.setCell ⟨w1.heap.size, k * 2, none⟩ (.int .i64 fn) |>.setCell ⟨w1.heap.size, k * 2 + 1, none⟩ (.slice xa nl xc)).alloc (.cells #[.int .i64 fn, .slice xa nl xc] 46)) := (Below.refl _ _).alloc (Nat.le_refl _) _
          refine ⟨k + 1, vs.set k (fn, .slice xa nl xc), by omega, ?_, by go_num, by simp; exact HV.out, HOV, ?_, ?_, ?_, ?_, ?_, ?_, ?_⟩
          · rw [HTSk.out]; simp
          · have h := (HBS5.out.set (k * 2) (.int .i64 fn)).set (k * 2 + 1) (.slice xa nl xc)
            rw [set_state (by rw [HV.out]; omega) (fn, .slice xa nl xc)] at h
            exact h.alloc _
          · intro j hj
            rw [el_setS (by rw [HV.out]; omega)]
            by_cases hjk : j = k
            · subst hjk
              rw [if_pos rfl, HFN.out, HLN.out]
              have h9 : w5.ownsRow (w1.heap.size + 1) 53 4 (.slice xa nl xc) LN.length (LN.flatMap encA) := own_mono HO5.out hws
              exact ⟨rfl, own_below (ownsRow_setCell_below (ownsRow_setCell_below h9 (Nat.lt_succ_self _) _) (Nat.lt_succ_self _) _) hA⟩
            · rw [if_neg hjk]
              obtain ⟨q1, q2⟩ := hold.out j (by omega)
              exact ⟨q1, own_below (ownsRow_setCell_below (ownsRow_setCell_below (own_below q2 HB5.out) (Nat.lt_succ_self _) _) (Nat.lt_succ_self _) _) hA⟩
          · exact (((hG.out.later HB5.out).setO (by omega) _ _).setO (by omega) _ _).later hA
          · exact (((hk0.out.below HB5.out hk0.out.lt).setO _ _ (by show w.heap.size ≠ w1.heap.size; omega)).setO _ _ (by show w.heap.size ≠ w1.heap.size; omega)).alloc _
          · exact (((hk1.out.below HB5.out hk1.out.lt).setO _ _ (by show w.heap.size + 1 ≠ w1.heap.size; omega)).setO _ _ (by show w.heap.size + 1 ≠ w1.heap.size; omega)).alloc _
          · have h9 := ((hb.out.trans (HB5.out.mono hb.out.size)).setCell (p := ⟨w1.heap.size, k * 2, none⟩) (by show w.heap.size ≤ w1.heap.size; omega) (.int .i64 fn)).setCell (p := ⟨w1.heap.size, k * 2 + 1, none⟩) (by show w.heap.size ≤ w1.heap.size; omega) (.slice xa nl xc)
            exact h9.alloc h9.size _
          · have := HB5.out.size
            simp [World.setCell]; omega
        case measure => simp [intOf]; omega
    · have k1' : ¬ (k : Int) < (n : Int) := by omega
      obtain rfl : n = k := by omega
      have HOF := hidP hov.out
      have ht : arcN (GM.2.take n) = arcN RM.2 := by rw [HTE.out, HTR.out]
      rw [ht] at harc ⊢
      have hz := HSB.out RM HRL.out
      by_cases hbig : arcN RM.2 ≤ 400
      · have hfe : fitE RM = 0 := by unfold fitE; rw [hz, decide_eq_true hbig]; rfl
        have hfm : fitM RM = RM := by unfold fitM; rw [hz, decide_eq_true hbig]; rfl
        have hFG := HGR.out hov.out (by rw [HTR.out]; exact hbig)
        have HFG := hidP hFG
        have hM2 : Mach w4 (.agg #[.int .i64 z, .slice (some ⟨w1.heap.size, 0, none⟩) n n]) GM := by
          have h := sts_block (l := GM.2) (B := w1.heap.size + 1) (w := w4) hbs.out (by rw [HGL.out]; exact hvl) (fun j hj => by
            rw [HGL.out] at hj
            rw [HGE.out j hj]
            exact hold.out j hj)
          rw [HGL.out] at h
          exact ⟨_, by rw [HG1.out], h⟩
        have HCS := hidP (sorted_any _ GM w4 hM2 HGK.out 0 hFG)
        have HRE : Hid (resM 0 (mapM (sortS false) GM) = RM) := by show _ = _; rw [HGS.out]; rfl
        rw [HRE.out] at HCS
        have c0 := hk0.out.cell 0 (v := .int .i64 z) rfl
        have hgt : ¬ ((arcN RM.2 : Nat) : Int) > 400 := by omega
        have HFE := hidP hfe
        have HFM := hidP hfm
        have HB := hidP hb.out
        have HK1 := hidP hk1.out
        clear hfe hfm hz hold hbs hM2 hFG HRE hk0 ht hov hG
        generalize hRn : arcN RM.2 = rn at *
        clear hRn
        go_wp2_with (first
          | (go_at_call 19; (with_reducible refine HCS.out.mono ?_); rintro e w5 ⟨v5, rfl, hm5, hb5⟩; obtain ⟨a5, c5, rfl⟩ := hm5.sl; have k5 := HK1.out.below hb5 HK1.out.lt; have r0 := k5.cell 0 (v := .int .i64 0) rfl; have r1 := k5.cell 1 (v := .slice none 0 0) rfl; have f0 := k5.fz 0; have f1 := k5.fz 1; have s5 := k5.lt; have HB5 := hidP (HB.out.trans (hb5.mono HB.out.size)); have HM5 := hidP hm5; clear k5 hb5 hm5))
        refine bodyPost_ret (v := .tuple #[.agg #[.int .i64 RM.1, .slice a5 RM.2.length c5], .int .i64 0]) (by simp [results, Try.results7, go_sem, *]) rfl ?_
        rw [(HXN.out HOF.out).1, (HXN.out HOF.out).2, HFE.out, HFM.out]
        exact ⟨_, rfl, ((HM5.out.set (a := ⟨w.heap.size + 1, 0, none⟩) (by show w.heap.size + 1 < w4.heap.size; omega) _).set (a := ⟨w.heap.size + 1, 1, none⟩) (by show w.heap.size + 1 < w4.heap.size; omega) _).mach, by have h := HB5.out; go_grown⟩
      · have hfe : fitE RM = 5 := by unfold fitE; rw [hz, decide_eq_false hbig]; rfl
        have hfm : fitM RM = (0, []) := by unfold fitM; rw [hz, decide_eq_false hbig]; rfl
        have hgt : ((arcN RM.2 : Nat) : Int) > 400 := by omega
        have HFE := hidP hfe
        have HFM := hidP hfm
        have HB := hidP hb.out
        have r0 := hk1.out.cell 0 (v := .int .i64 0) rfl
        have r1 := hk1.out.cell 1 (v := .slice none 0 0) rfl
        have f0 := hk1.out.fz 0
        have f1 := hk1.out.fz 1
        clear hfe hfm hz hold hbs hk0 ht hov hG
        generalize hRn : arcN RM.2 = rn at *
        clear hRn
        go_wp2
        refine bodyPost_ret (v := .tuple #[.agg #[.int .i64 0, .slice none 0 0], .int .i64 5]) (by simp [results, Try.results7, go_sem, *]) rfl ?_
        rw [(HXN.out HOF.out).1, (HXN.out HOF.out).2, HFE.out, HFM.out]
        exact ⟨_, rfl, mach_zeroR _, by have h := HB.out; go_grown⟩
/-- Whatever machine is given. -/
theorem removeP_any (v : Value) (m : Mc) (w : World) (h : Mach w v m) (hok : okM m) (H : Nat → Nat → Int) (hH : faultM m = 0 → HopT m H) :
    Calls Try.prog 7 #[v] w fun e w' => RatRes (remR H m) (remE H m) w e w' := by
  unfold remR remE
  by_cases h0 : faultM m = 0
  · have e1 : ¬ faultM m ≠ 0 := fun g => g h0
    rw [if_neg e1, if_neg e1]
    exact removeP_ok v m w h hok h0 H (hH h0)
  · rw [if_pos h0, if_pos h0]
    exact removeP_bad v m w h hok _ rfl h0
end Go.Proofs.Ytjpfpdbhdcopbaa.Wt
