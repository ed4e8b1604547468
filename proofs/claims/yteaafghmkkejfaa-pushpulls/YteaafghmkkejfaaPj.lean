/- The reference: finals that are more by the total. -/
import Derived.Test.YteaafghmkkejfaaRk
import Derived.Test.YteaafghmkkejfaaRl
import Derived.Test.YteaafghmkkejfaaPy
import Derived.Test.YteaafghmkkejfaaJ15u
import Derived.Test.YteaafghmkkejfaaKs
import Derived.Test.YteaafghmkkejfaaTj
import Derived.Test.YteaafghmkkejfaaMcR
namespace Go.Proofs.Yteaafghmkkejfaa.Wt
open Go.ChangeShapes Go.WideShapes Go.ChangeAt Go.RowKit
open Go.Proofs.Yteaafghmkkejfaa.Pl
set_option linter.unusedVariables false
set_option linter.unusedSimpArgs false
theorem flat_setF {vs : List (Int × Value)} {q : Nat} (hq : q < vs.length) (f : Int) : (vs.flatMap encS).set (q * 2) (.int .i64 f) = (vs.set q (f, (el vs q).2)).flatMap encS := by
  induction vs generalizing q with
  | nil => simp at hq
  | cons x xs ih =>
    cases q with
    | zero => simp [encS, el]
    | succ q =>
      have h4 := ih (q := q) (by simpa using hq)
      rw [List.set_cons_succ, List.flatMap_cons, List.flatMap_cons, el_succ, ← h4, List.set_append_right _ _ (by rw [encS_len]; omega), encS_len, show (q + 1) * 2 - 2 = q * 2 by omega]
/-- A state of the call's own given another Final. -/
theorem OwnSts.putF {w : World} {base g cap q : Nat} {l : List St} {f : Int} (h : OwnSts w base (.slice (some ⟨g, 0, none⟩) l.length cap) l) (hq : q < l.length) :
    OwnSts (w.setCell ⟨g, q * 2, none⟩ (.int .i64 f)) base (.slice (some ⟨g, 0, none⟩) l.length cap) (l.set q (f, (el l q).2)) := by
  obtain ⟨vs, h1, h2, h3⟩ := h
  have h1' := h1
  rw [h2] at h1
  have hs := (h1.stored (q * 2) (.int .i64 f)).1
  rw [flat_setF (by omega)] at hs
  refine ⟨vs.set q (f, (el vs q).2), by rw [List.length_set, h2]; exact hs, by simp [h2], fun j hj => ?_⟩
  have hj' : j < l.length := by simpa using hj
  rw [Pl.el_set (by omega), Pl.el_set hj']
  by_cases e : q = j
  · subst e
    rw [if_pos rfl, if_pos rfl]
    exact ⟨rfl, ownsRow_setCell_other (a := ⟨g, q * 2, none⟩) (h3 q hq).2 (other_block (g := g) (h3 q hq).2 h1' rfl) _⟩
  · rw [if_neg e, if_neg e]
    exact ⟨(h3 j hj').1, ownsRow_setCell_other (a := ⟨g, q * 2, none⟩) (h3 j hj').2 (other_block (g := g) (h3 j hj').2 h1' rfl) _⟩
theorem OwnSts.spot {w : World} {base : Nat} {v : Value} {l : List St} (h : OwnSts w base v l) (hl : 0 < l.length) : ∃ g cap, v = .slice (some ⟨g, 0, none⟩) l.length cap ∧ base ≤ g ∧ g < w.heap.size := by
  obtain ⟨vs, h1, h2, h3⟩ := h
  rcases h1.2 with ⟨hv, hn0⟩ | ⟨g, cap, cur, rfl, hbg, hg, _⟩
  · omega
  · exact ⟨g, cap, by rw [h2], hbg, (Array.getElem?_eq_some_iff.1 hg).1⟩
theorem OwnSts.fz {w : World} {base g n cap : Nat} {l : List St} (h : OwnSts w base (.slice (some ⟨g, 0, none⟩) n cap) l) (j : Nat) : w.frozen? ⟨g, j, none⟩ = false := by
  obtain ⟨vs, h1, h2, h3⟩ := h
  rcases h1.2 with ⟨hv, hn0⟩ | ⟨g', cap', cur, hv, hbg, hg, _⟩
  · simp at hv
  · simp only [Value.slice.injEq, Option.some.injEq, Addr.mk.injEq, and_true] at hv
    obtain ⟨rfl, _⟩ := hv
    exact Blk.fz (t := 43) hg j
theorem OwnSts.fin {w : World} {base g n cap : Nat} {l : List St} (h : OwnSts w base (.slice (some ⟨g, 0, none⟩) n cap) l) {q : Nat} (hq : q < l.length) : w.cell? ⟨g, q * 2, none⟩ = some (.int .i64 (el l q).1) := by
  obtain ⟨a, cap', hv, hc⟩ := h.sts.get
  obtain ⟨b, off, va, ha, _, h1, _⟩ := hc q hq
  injection hv with e1 _ _
  rw [ha] at e1
  injection e1 with e2
  injection e2 with e3 e4 _
  rw [← e3, ← e4, Nat.zero_add] at h1
  exact h1
/-- The first k finals are more. -/
def pulK (total : Int) (l : List St) (k : Nat) : List St := (List.range l.length).map fun j => if j < k then (pulF total (el l j).1, (el l j).2) else el l j
theorem pulK_len (total : Int) (l : List St) (k : Nat) : (pulK total l k).length = l.length := by simp [pulK]
theorem pulK_el {total : Int} {l : List St} {k j : Nat} (hj : j < l.length) : el (pulK total l k) j = if j < k then (pulF total (el l j).1, (el l j).2) else el l j := el_range_map _ hj
theorem pulK_zero (total : Int) (l : List St) : pulK total l 0 = l := el_ext (pulK_len _ _ _) fun j hj => by
  rw [pulK_len] at hj
  rw [pulK_el hj, if_neg (by omega)]
theorem pulK_next {total : Int} {l : List St} {k : Nat} (hk : k < l.length) : (pulK total l k).set k (pulF total (el l k).1, (el (pulK total l k) k).2) = pulK total l (k + 1) := by
  refine el_ext (by rw [List.length_set, pulK_len, pulK_len]) fun j hj => ?_
  rw [List.length_set, pulK_len] at hj
  rw [Pl.el_set (by rw [pulK_len]; exact hj), pulK_el (k := k) hj, pulK_el (k := k + 1) hj, pulK_el (k := k) hk]
  by_cases e : k = j
  · subst e
    rw [if_pos rfl, if_neg (by omega), if_pos (by omega)]
  · rw [if_neg e]
    by_cases g : j < k
    · rw [if_pos g, if_pos (by omega)]
    · rw [if_neg g, if_neg (by omega)]
theorem pulK_all (total : Int) (l : List St) : pulK total l l.length = l.map fun s => (pulF total s.1, s.2) := el_ext (by rw [pulK_len]; simp) fun j hj => by
  rw [pulK_len] at hj
  rw [pulK_el hj, if_pos hj, el_map hj]
theorem pul_yes {total : Int} {l : List St} {q : Nat} (hq : q < l.length) (h1 : (el l q).1 ≠ 1000000001) (h2 : 1000000000 < (el l q).1 + total) : pulO total l = true := by
  unfold pulO
  rw [List.any_eq_true]
  exact ⟨el l q, el_mem hq, by simp [h1, h2]⟩
theorem pul_no {total : Int} {l : List St} (h : ∀ q, q < l.length → (el l q).1 = 1000000001 ∨ (el l q).1 + total ≤ 1000000000) : pulO total l = false := by
  unfold pulO
  rw [List.any_eq_false]
  intro s hs
  obtain ⟨q, hq, rfl⟩ := mem_el hs
  rcases h q hq with g | g
  · simp [g]
  · simp; intro _; omega
set_option maxRecDepth 100000 in
theorem pulled_bad (v : Value) (m : Mc) (total : Int) (w : World) (h : Mach w v m) (hok : okM m) (hr : ¬ faultM m = 0) :
    Calls Try.prog 12 #[v, .int .i64 total] w fun e w' => PulRes (PulAns m total) w e w' := by
  obtain ⟨z, l⟩ := m
  have HM : Hid (Mach w v (z, l)) := h
  have HK : Hid (okM (z, l)) := hok
  obtain ⟨r, hr0⟩ : ∃ r, faultM (z, l) = r := ⟨_, rfl⟩
  have HR := hidP hr0
  rw [hr0] at hr
  have HA : Hid (PulAns (z, l) total (0, []) r) := .inl ⟨by rw [hr0]; exact hr, rfl, hr0.symm⟩
  have h1' : (r == 0) = false := by simpa using hr
  have h2' : (r != 0) = true := bne_iff_ne.2 hr
  obtain ⟨vs, rfl, hS⟩ := h
  obtain ⟨a, cap, rfl⟩ := hS.sl
  clear hS hok hr0
  go_enter Try.func12, Try.ntmps12
  go_wp2_with (first
    | (go_at_call 24; (with_reducible refine (trimmed_bad _ (z, l) _ (HM.out.later (B := w.heap.size) (by go_grown) (Nat.le_refl _)) HK.out r HR.out hr).mono ?_); rintro e wa ⟨rfl, hb⟩; obtain ⟨sa, b1, b2, hb1⟩ := boxedTwo hb (by simp); have HBa := hidP hb1; have KRa := hidP b2; have q0 := KRa.out.cell 0 (v := .int .i64 0) rfl; have q1 := KRa.out.cell 1 (v := .slice none 0 0) rfl; have g0 := KRa.out.fz 0; have g1 := KRa.out.fz 1; have s1 : w.heap.size + 1 < wa.heap.size := (by omega); clear b1 b2 hb1 hb))
  exact bodyPost_ret (v := .tuple #[.agg #[.int .i64 0, .slice none 0 0], .int .i64 r]) (by simp [results, Try.results12, go_sem, *]) rfl ⟨_, _, _, rfl, HA.out, mach_zeroR _, by (have h9 := HBa.out); go_grown⟩
set_option maxRecDepth 100000 in
set_option maxHeartbeats 3200000 in
theorem pulled_ok (v : Value) (m : Mc) (total : Int) (w : World) (h : Mach w v m) (hok : okM m) (hr : faultM m = 0) :
    Calls Try.prog 12 #[v, .int .i64 total] w fun e w' => PulRes (PulAns m total) w e w' := by
  obtain ⟨z, l⟩ := m
  have HM : Hid (Mach w v (z, l)) := h
  have HK : Hid (okM (z, l)) := hok
  have HR := hidP hr
  have HTF : Hid (∀ aa bs, faultM (trimM z l (keptL aa bs l.length)) = 0) := fun aa bs => trim_fault (aa := aa) (bs := bs) hr
  have HAR : Hid (inB total 0 1000000000 = false → PulAns (z, l) total (0, []) 2) := fun h => .inr (.inl ⟨hr, h, rfl, rfl⟩)
  have HAO : Hid (∀ aa bs, Least (AheadC z l) l.length aa → Least (BackC l) l.length bs → inB total 0 1000000000 = true → pulO total (trimM z l (keptL aa bs l.length)).2 = true → PulAns (z, l) total (0, []) 4) := fun aa bs hA hB hi ho => .inr (.inr ⟨hr, hi, aa, bs, hA, hB, .inl ⟨ho, rfl, rfl⟩⟩)
  have HAG : Hid (∀ aa bs, Least (AheadC z l) l.length aa → Least (BackC l) l.length bs → inB total 0 1000000000 = true → pulO total (trimM z l (keptL aa bs l.length)).2 = false → PulAns (z, l) total (pulM total (trimM z l (keptL aa bs l.length))) 0) := fun aa bs hA hB hi ho => .inr (.inr ⟨hr, hi, aa, bs, hA, hB, .inr ⟨ho, rfl, rfl⟩⟩)
  obtain ⟨vs0, rfl, hS⟩ := h
  obtain ⟨a, cap, rfl⟩ := hS.sl
  clear hS hok hr
  generalize PulAns (z, l) total = ANS at *
  obtain ⟨bI, hbI⟩ : ∃ bI, inB total 0 1000000000 = bI := ⟨_, rfl⟩
  have HIN : Hid (inB total 0 1000000000 = bI) := hbI
  rw [hbI] at HAR HAO HAG
  have hnot : ∀ (x : Bool) (w : World), (Op.unary .not (.bool x)).run Try.prog w = .ok (.bool (!x)) w := fun _ _ => rfl
  have htb : bI = true → 0 ≤ total ∧ total ≤ 1000000000 := fun h => by rw [h] at hbI; simpa [inB] using hbI
  clear hbI
  go_enter Try.func12, Try.ntmps12
  go_wp2_with (first
    | (go_at_call 24; (with_reducible refine (trimmed_own _ (z, l) _ (HM.out.later (B := w.heap.size) (by go_grown) (Nat.le_refl _)) HK.out HR.out).mono ?_); rintro e w1 ⟨st, vt, rfl, ⟨aa, hA, bs, hB, hst, ho⟩, hb⟩; obtain ⟨sa, b1, b2, hb1⟩ := boxedTwo hb (by simp); have HB1 := hidP hb1; have KR1 := hidP b2; have q0 := KR1.out.cell 0 (v := .int .i64 0) rfl; have q1 := KR1.out.cell 1 (v := .slice none 0 0) rfl; have g0 := KR1.out.fz 0; have g1 := KR1.out.fz 1; have s1 : w.heap.size + 1 < w1.heap.size := (by omega); have HTO := hidP (HAO.out aa bs hA hB); have HTG := hidP (HAG.out aa bs hA hB); have hf1 := HTF.out aa bs; have HO1 := hidP ho; simp only [World.size_alloc] at HO1; obtain ⟨aT, cT, hvT⟩ := ho.sts.sl; subst hvT; subst hst; clear b1 b2 hb1 hb hA hB ho; generalize hTT : trimM z l (keptL aa bs l.length) = T at *)
    | (go_at_call 28; (with_reducible refine (refIn _ _ _ _ _ HIN.out).mono ?_); rintro e w' ⟨rfl, rfl⟩; cases bI))
  · exact bodyPost_ret (v := .tuple #[.agg #[.int .i64 0, .slice none 0 0], .int .i64 2]) (by simp [results, Try.results12, go_sem, *]) rfl ⟨_, _, _, rfl, HAR.out (by simp), mach_zeroR _, by (have h9 := HB1.out); go_grown⟩
  · obtain ⟨zt, lt⟩ := T
    obtain ⟨ht0, ht1⟩ := htb (by simp)
    have h60 := (right_size hf1).1
    have HFB : Hid (∀ j, j < lt.length → finB (el lt j).1 = true) := fun j hj => (right_st hf1 hj).1
    have HOV : Hid (∀ q, q < lt.length → (el lt q).1 ≠ 1000000001 → 1000000000 < (el lt q).1 + total → ANS (0, []) 4) := fun q hq h1 h2 => HTO.out (by simp) (pul_yes hq h1 h2)
    have HGO : Hid ((∀ q, q < lt.length → (el lt q).1 = 1000000001 ∨ (el lt q).1 + total ≤ 1000000000) → ANS (pulM total (zt, lt)) 0) := fun h => HTG.out (by simp) (pul_no h)
    simp only at HO1
    clear hf1 HTO HTG hTT HAR HAO HAG HTF HM HK HR HIN q0 q1 g0 g1 htb
    generalize hn : lt.length = n at *
    have HN : Hid (lt.length = n) := hn
    clear hn
    have hR1 := hidP (KR1.out.alloc (.cells #[.int .i64 zt, .slice aT n cT] 24))
    have hT1 := hidP (Blk.made w1 #[.int .i64 zt, .slice aT n cT] 24)
    have hB1 := hidP (HB1.out.alloc HB1.out.size (.cells #[.int .i64 zt, .slice aT n cT] 24))
    have hO1 : Hid (OwnSts (w1.alloc (.cells #[.int .i64 zt, .slice aT n cT] 24)) (w.heap.size + 1 + 1) (.slice aT n cT) (pulK total lt 0)) := by rw [pulK_zero]; exact HO1.out.laterB ((Below.refl _ _).alloc (Nat.le_refl _) _)
    have HGG : Hid (0 < n → ∃ g, aT = some ⟨g, 0, none⟩ ∧ w.heap.size + 1 + 1 ≤ g ∧ g < w1.heap.size) := fun hp => by
      obtain ⟨g, c9, hv, h1, h2⟩ := HO1.out.spot (by rw [HN.out]; exact hp)
      injection hv with e1 _ _
      exact ⟨g, e1, h1, h2⟩
    clear HO1 KR1 HB1
    go_loopw [8] (fun s8 wr => ∃ k : Nat, k ≤ n ∧ s8 = .int .i64 (k : Int) ∧ Hid (OwnSts wr (w.heap.size + 1 + 1) (.slice aT n cT) (pulK total lt k)) ∧ Hid (Blk wr w1.heap.size #[.int .i64 zt, .slice aT n cT] 24) ∧ Hid (Blk wr (w.heap.size + 1) #[.int .i64 0, .slice none 0 0] 24) ∧ Hid (Below w.heap.size w wr) ∧ Hid (∀ q, q < k → (el lt q).1 = 1000000001 ∨ (el lt q).1 + total ≤ 1000000000)) (fun s8 _ => n - (intOf s8).toNat)
    case atStart => exact ⟨0, Nat.zero_le _, by go_num, hO1, hT1, hR1, hB1, fun q hq => absurd hq (Nat.not_lt_zero _)⟩
    case round =>
      clear hO1 hT1 hR1 hB1
      obtain ⟨k, hk, rfl, hO, hT, hR, hB, hS⟩ := hrel
      obtain ⟨w2, hw2⟩ : ∃ w2, w2 = wr := ⟨_, rfl⟩
      subst hw2
      have t1 := hT.out.cell 1 (v := .slice aT n cT) rfl
      have hsr := hR.out.lt
      by_cases hlt : k < n
      · have j0 : (0 : Int) ≤ (k : Int) := Int.natCast_nonneg _
        have j1 : (k : Int) < (n : Int) := by omega
        obtain ⟨g, haT, hg1, hg2⟩ := HGG.out (by omega)
        subst haT
        have hkl : k < lt.length := by rw [HN.out]; exact hlt
        have y0 := hO.out.fin (q := k) (by rw [pulK_len]; exact hkl)
        have f0 := hO.out.fz (k * 2)
        rw [pulK_el hkl, if_neg (by omega)] at y0
        have hfb := HFB.out k hlt
        have HJ : Hid (Calls Try.prog 29 #[.int .i64 (el lt k).1, .int .i64 total] w2 fun e w' => e = .returned (.tuple #[.int .i64 (timesR (el lt k).1 total).1, .int .i64 (timesR (el lt k).1 total).2]) ∧ w' = w2) := joined_any _ _ w2
        have hwt : timesR (el lt k).1 total = if (el lt k).1 = 1000000001 then (1000000001, 0) else if 1000000000 < (el lt k).1 + total then (0, 4) else ((el lt k).1 + total, 0) := by
          have h1 : (wtB (el lt k).1 && wtB total) = true := by
            rw [Bool.and_eq_true, wtB_true, wtB_true]
            simp [finB, inB] at hfb
            omega
          unfold timesR
          rw [if_pos h1]
          by_cases e : (el lt k).1 = 1000000001
          · rw [if_pos (.inl e), if_pos e]
          · rw [if_neg (by omega), if_neg e]
        rw [hwt] at HJ
        have HPN : Hid (∀ f, f = pulF total (el lt k).1 → OwnSts (w2.setCell ⟨g, k * 2, none⟩ (.int .i64 f)) (w.heap.size + 1 + 1) (.slice (some ⟨g, 0, none⟩) n cT) (pulK total lt (k + 1))) := fun f hf => by
          have h9 := OwnSts.putF (f := f) (l := pulK total lt k) (q := k) (by rw [pulK_len, HN.out]; exact hO.out) (by rw [pulK_len]; exact hkl)
          rw [hf, pulK_next hkl, pulK_len, HN.out] at h9
          rw [hf]
          exact h9
        have HOVk := hidP (HOV.out k hlt)
        have HSN : Hid (((el lt k).1 = 1000000001 ∨ (el lt k).1 + total ≤ 1000000000) → ∀ q, q < k + 1 → (el lt q).1 = 1000000001 ∨ (el lt q).1 + total ≤ 1000000000) := fun h q hq => by
          by_cases e : q = k
          · rw [e]; exact h
          · exact hS.out q (by omega)
        have hPF : pulF total (el lt k).1 = if (el lt k).1 = 1000000001 then 1000000001 else (el lt k).1 + total := rfl
        clear hwt hkl
        rw [hPF] at HPN
        clear hPF
        generalize (el lt k).1 = fin at *
        by_cases hfi : fin = 1000000001
        · subst hfi
          simp only [if_true] at HJ HPN
          have HO2 := hidP (HPN.out _ rfl)
          have HS2 := hidP (HSN.out (.inl rfl))
          clear HPN HSN HOVk
          go_wp2_with (first | (go_at_call 29; (with_reducible refine HJ.out.mono ?_); rintro e w' ⟨rfl, rfl⟩))
          go_roundw
          case rel => exact ⟨k + 1, by omega, by go_num, HO2, hT.out.setO _ _ (by show w1.heap.size ≠ g; omega), hR.out.setO _ _ (by show w.heap.size + 1 ≠ g; omega), hB.out.setCell (by show w.heap.size ≤ g; omega) _, HS2⟩
          case measure => simp [intOf]; omega
        · rw [if_neg hfi] at HJ HPN
          by_cases hov : (1000000000 : Int) < fin + total
          · rw [if_pos hov] at HJ
            have HA4 := hidP (HOVk.out hfi hov)
            have q0 := hR.out.cell 0 (v := .int .i64 0) rfl
            have q1 := hR.out.cell 1 (v := .slice none 0 0) rfl
            have g0 := hR.out.fz 0
            have g1 := hR.out.fz 1
            clear HPN HSN HOVk
            go_wp2_with (first | (go_at_call 29; (with_reducible refine HJ.out.mono ?_); rintro e w' ⟨rfl, rfl⟩))
            exact bodyPost_ret (v := .tuple #[.agg #[.int .i64 0, .slice none 0 0], .int .i64 4]) (by simp [results, Try.results12, go_sem, *]) rfl ⟨_, _, _, rfl, HA4.out, mach_zeroR _, by (have h9 := hB.out); go_grown⟩
          · rw [if_neg hov] at HJ
            have HO2 := hidP (HPN.out _ rfl)
            have HS2 := hidP (HSN.out (.inr (by omega)))
            clear HPN HSN HOVk
            go_wp2_with (first | (go_at_call 29; (with_reducible refine HJ.out.mono ?_); rintro e w' ⟨rfl, rfl⟩))
            go_roundw
            case rel => exact ⟨k + 1, by omega, by go_num, HO2, hT.out.setO _ _ (by show w1.heap.size ≠ g; omega), hR.out.setO _ _ (by show w.heap.size + 1 ≠ g; omega), hB.out.setCell (by show w.heap.size ≤ g; omega) _, HS2⟩
            case measure => simp [intOf]; omega
      · have hnl : ¬ (k : Int) < (n : Int) := by omega
        obtain rfl : k = n := by omega
        have HA0 := hidP (HGO.out (fun q hq => hS.out q hq))
        have t0 := hT.out.cell 0 (v := .int .i64 zt) rfl
        have q0 := hR.out.cell 0 (v := .int .i64 0) rfl
        have q1 := hR.out.cell 1 (v := .slice none 0 0) rfl
        have g0 := hR.out.fz 0
        have g1 := hR.out.fz 1
        have HX : Hid (OwnSts w2 (w.heap.size + 1 + 1) (.slice aT k cT) (pulM total (zt, lt)).2) := by
          have h9 := hO.out
          rw [show pulK total lt k = (pulM total (zt, lt)).2 by rw [← HN.out, pulK_all]; rfl] at h9
          exact h9
        clear HGO HOV
        go_wp2
        exact bodyPost_ret (v := .tuple #[.agg #[.int .i64 zt, .slice aT k cT], .int .i64 0]) (by simp [results, Try.results12, go_sem, *]) rfl ⟨_, _, _, rfl, HA0.out, ⟨_, rfl, ((HX.out.setCell (a := ⟨w.heap.size + 1, 0, none⟩) (Nat.lt_succ_self _) _).setCell (a := ⟨w.heap.size + 1, 1, none⟩) (Nat.lt_succ_self _) _).sts⟩, by (have h9 := hB.out); go_grown⟩
theorem pulled_any (v : Value) (m : Mc) (total : Int) (w : World) (h : Mach w v m) (hok : okM m) :
    Calls Try.prog 12 #[v, .int .i64 total] w fun e w' => PulRes (PulAns m total) w e w' := by
  by_cases hr : faultM m = 0
  · exact pulled_ok v m total w h hok hr
  · exact pulled_bad v m total w h hok hr
end Go.Proofs.Yteaafghmkkejfaa.Wt
