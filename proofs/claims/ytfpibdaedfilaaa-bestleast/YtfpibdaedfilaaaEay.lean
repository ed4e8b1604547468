/- best.toEnd: of each state, what is left to the end at least. -/
import Derived.Test.YtfpibdaedfilaaaEax
import Derived.Test.YtfpibdaedfilaaaEab
namespace Go.Proofs.Ytfpibdaedfilaaa.Bw
open Go.ChangeShapes Go.WideShapes Go.ChangeAt Go.RowKit
open Go.Proofs.Ytfpibdaedfilaaa.Pl Go.Proofs.Ytfpibdaedfilaaa.Wt
set_option linter.unusedVariables false
set_option linter.unusedSimpArgs false
theorem set_keyL {xs : List Int} {k : Nat} (hk : k < xs.length) (p : Int) : ((xs.flatMap encT).set (k * 2) (.int .i64 (kA p))).set (k * 2 + 1) (.int .i64 (kB p)) = (xs.set k p).flatMap encT := by
  induction xs generalizing k with
  | nil => simp at hk
  | cons x xs ih =>
    cases k with
    | zero => simp [encT]
    | succ k =>
      have h4 := ih (k := k) (by simpa using hk)
      rw [List.set_cons_succ, List.flatMap_cons, List.flatMap_cons, ← h4]
      have e : ∀ (l : List Value) (i : Nat) (v : Value), (encT x ++ l).set ((k + 1) * 2 + i) v = encT x ++ l.set (k * 2 + i) v := fun l i v => by
        rw [List.set_append_right _ _ (by rw [encT_len]; omega), encT_len]
        congr 2
        omega
      have e0 := e (xs.flatMap encT) 0 (.int .i64 (kA p))
      have e1 : (encT x ++ List.flatMap encT xs).set ((k + 1) * 2) (Value.int IntKind.i64 (kA p)) = encT x ++ (List.flatMap encT xs).set (k * 2) (Value.int IntKind.i64 (kA p)) := e0
      rw [e1, e]
theorem own_twn0 {w : World} {base : Nat} {e : TypeId} {g n cap : Nat} {ws : List Int} (h : w.ownsRow base e 2 (.slice (some ⟨g, 0, none⟩) n cap) n (ws.flatMap encT)) (hj : 0 < ws.length) : w.cell? ⟨g, 0, none⟩ = some (.int .i64 (kA (el ws 0))) ∧ w.cell? ⟨g, 1, none⟩ = some (.int .i64 (kB (el ws 0))) := by
 have hc : ∀ i u, i < 2 → (encT (el ws 0))[i]? = some u → w.cell? ⟨g, 0 * 2 + i, none⟩ = some u := fun i u hi hu => by
  have := h.cells (g := g) rfl (0 * 2 + i) u ((flat_at encT_len ws 0 hj i hi).trans hu)
  rw [Addr.add_lit, Nat.zero_add] at this
  exact this
 exact ⟨hc 0 _ (by omega) rfl, hc 1 _ (by omega) rfl⟩
def KeyT (w : World) (T : Nat) (ks : List Int) : Prop := Blk w T (ks.flatMap encT).toArray 69
theorem KeyT.cell {w : World} {T : Nat} {ks : List Int} (h : KeyT w T ks) {j : Nat} (hj : j < ks.length) : w.cell? ⟨T, j * 2, none⟩ = some (.int .i64 (kA (el ks j))) ∧ w.cell? ⟨T, j * 2 + 1, none⟩ = some (.int .i64 (kB (el ks j))) := by
 have h1 := flat_at encT_len ks j hj 0 (by omega)
 have h2 := flat_at encT_len ks j hj 1 (by omega)
 rw [Nat.add_zero] at h1
 exact ⟨Blk.cell h _ (by rw [List.getElem?_toArray, h1]; rfl), Blk.cell h _ (by rw [List.getElem?_toArray, h2]; rfl)⟩
theorem KeyT.set {w : World} {T : Nat} {ks : List Int} (h : KeyT w T ks) {j : Nat} (hj : j < ks.length) (p : Int) : KeyT ((w.setCell ⟨T, j * 2, none⟩ (.int .i64 (kA p))).setCell ⟨T, j * 2 + 1, none⟩ (.int .i64 (kB p))) T (ks.set j p) := by
 have h9 := (Blk.set h (j * 2) (.int .i64 (kA p))).set (j * 2 + 1) (.int .i64 (kB p))
 unfold KeyT
 rw [← set_keyL hj]
 simpa using h9
theorem KeyT.below {w w' : World} {T B : Nat} {ks : List Int} (h : KeyT w T ks) (hb : Below B w w') (hB : T < B) : KeyT w' T ks := Blk.below h hb hB
theorem made_twins (n : Nat) : madeCells (Value.cells (.agg #[.int .i64 0, .int .i64 0])) (n * 2) = ((List.replicate n (0 : Int)).flatMap encT).toArray := by
 have hz : Value.cells (.agg #[.int .i64 0, .int .i64 0]) = #[.int .i64 0, .int .i64 0] := rfl
 have e0 : encT 0 = [.int .i64 0, .int .i64 0] := rfl
 apply Array.ext_getElem?
 intro t
 simp only [madeCells, hz]
 by_cases ht : t < n * 2
 ·have h1 : t = t / 2 * 2 + t % 2 := by omega
  have h2 := flat_at encT_len (List.replicate n (0 : Int)) (t / 2) (by simp; omega) (t % 2) (by omega)
  rw [← h1] at h2
  have hr : ((List.replicate n (0 : Int)).flatMap encT).toArray[t]? = (encT 0)[t % 2]? := by
   rw [List.getElem?_toArray, h2]
   have e9 : el (List.replicate n (0 : Int)) (t / 2) = 0 := by
    by_cases h9 : t / 2 < n <;> simp [el, h9]
   rw [e9]
  rw [hr, e0]
  have : t % 2 = 0 ∨ t % 2 = 1 := by omega
  rcases this with e | e <;> simp [ht, e]
 ·have h2 : ((List.replicate n (0 : Int)).flatMap encT).length = n * 2 := by rw [flat_length encT_len]; simp
  have hr : ((List.replicate n (0 : Int)).flatMap encT).toArray[t]? = none := by
   rw [List.getElem?_toArray]
   exact List.getElem?_eq_none (by rw [h2]; omega)
  rw [hr]
  simp [ht]
theorem run_twins (n : Nat) (hn : n ≤ 1000) (W : World) : (Instr.makeSlice 66 (.int .i64 (n : Int)) (.int .i64 (n : Int))).run Try.prog W = .ok (.slice (some ⟨W.heap.size, 0, none⟩) n n) (W.alloc (.cells ((List.replicate n (0 : Int)).flatMap encT).toArray 69)) := by
 obtain ⟨i1, hi1, hy0, hy1, hy2⟩ := info_parts infoTwn
 have h := run_make (P := Try.prog) W 66 69 i1 _ Try.underlying66 hi1 hy0 .i64 .i64 n n (by omega) (by omega) (by rw [hy2]; omega) (by omega)
 rw [hy1, Int.toNat_natCast, made_twins] at h
 exact h
set_option maxRecDepth 100000 in
set_option maxHeartbeats 6400000 in
theorem toEnd_any (z : Int) (vs : Value) (l : List St) (w : World) (h : Mach w (.agg #[.int .i64 z, vs]) (z, l)) (hR : RgtM z l) :
  Calls Try.prog 33 #[.agg #[.int .i64 z, vs]] w fun e w' => ∃ T ks F, e = .returned (.slice (some ⟨T, 0, none⟩) l.length l.length) ∧ KeyT w' T ks ∧ ks.length = l.length ∧ (∀ q, q < l.length → el ks q = lfK F q) ∧ CkI (trL (onL l)) 1 l.length F [] ∧ w.heap.size ≤ T ∧ Below w.heap.size w w' := by
 have HM : Hid (Mach w (.agg #[.int .i64 z, vs]) (z, l)) := h
 obtain ⟨vs', hvs, hS⟩ := h
 simp only [Value.agg.injEq, Array.mk.injEq, List.cons.injEq, and_true, true_and] at hvs
 subst hvs
 obtain ⟨a, cap, rfl⟩ := hS.sl
 have HR := hidP hR
 have hN60 := hR.few
 clear hS hR
 generalize hl : l.length = N at *
 have HL := hidP hl
 clear hl
 have hmk := run_twins N (by omega)
 have KT0 : Hid (KeyT ((w.alloc (.cells #[.int .i64 z, .slice a N cap] 27)).alloc (.cells ((List.replicate N (0 : Int)).flatMap encT).toArray 69)) (w.heap.size + 1) (List.replicate N 0)) := by
  have h9 := Blk.made (w.alloc (.cells #[.int .i64 z, .slice a N cap] 27)) ((List.replicate N (0 : Int)).flatMap encT).toArray 69
  rw [World.size_alloc] at h9
  exact h9
 have X0 := hidP ((Blk.made w #[.int .i64 z, .slice a N cap] 27).alloc (.cells ((List.replicate N (0 : Int)).flatMap encT).toArray 69))
 have B0 : Hid (Below w.heap.size w ((w.alloc (.cells #[.int .i64 z, .slice a N cap] 27)).alloc (.cells ((List.replicate N (0 : Int)).flatMap encT).toArray 69))) := ((Below.refl _ _).alloc (Nat.le_refl _) _).alloc (by simp) _
 generalize (List.replicate N (0 : Int)).flatMap encT = ce at *
 go_enter Try.func33, Try.ntmps33
 go_wp2
 generalize hT : w.heap.size + 1 = T at *
 have HT : Hid (T = w.heap.size + 1) := hT.symm
 clear hT
 generalize (w.alloc (.cells #[.int .i64 z, .slice a N cap] 27)).alloc (.cells ce.toArray 69) = W0 at *
 have X0 := hidP X0.out.drew
 have B0 := hidP B0.out.drew
 have KT0 : Hid (KeyT W0.drew T (List.replicate N 0)) := Blk.drew KT0.out
 have HS : HeldPm w.heap.size z (.slice a N cap) W0.drew := ⟨X0.out.cell 0 rfl, X0.out.cell 1 rfl⟩
 have HON := hidP (fun W (hW : Below w.heap.size w W) => onward_any z (.slice a N cap) l W (HM.out.later hW (Nat.le_refl _)) HR.out.few HR.out.arcs)
 rw [HL.out] at HON
 refine region_anyL (HeldPm w.heap.size z (.slice a N cap)) 1000 (by kernel_rfl) ?_
 refine anyL_tk (i := 0) (v := ?v0_1) aZ0 (by kernel_rfl) ?y0_1 HS ?r0_1
 case y0_1 => intro wx hx; obtain ⟨h0, h1⟩ := hx; go_simp; try (with_reducible rfl)
 simp only [Act.put, List.setIfInBounds_toArray, List.set_cons_zero, List.set_cons_succ]
 refine anyL_tk (i := 2) (v := ?v2_2) aZ2 (by kernel_rfl) ?y2_2 HS ?r2_2
 case y2_2 => intro wx hx; obtain ⟨h0, h1⟩ := hx; go_simp; try (with_reducible rfl)
 simp only [Act.put, List.setIfInBounds_toArray, List.set_cons_zero, List.set_cons_succ]
 refine anyL_one (i := 1) aZ1 (by kernel_rfl) rfl (fun K hK => ?_)
 go_simp
 with_reducible refine (end_any _ _ _ _ _).mono ?_
 rintro e w1 ⟨rfl, hb1⟩
 have X1 := hidP (X0.out.below hb1 X0.out.lt)
 have B1 := hidP (B0.out.trans (hb1.mono B0.out.size))
 have KT1 := hidP (KT0.out.below hb1 (Blk.lt KT0.out))
 have HS1 : HeldPm w.heap.size z (.slice a N cap) w1 := ⟨X1.out.cell 0 rfl, X1.out.cell 1 rfl⟩
 have HON1 := hidP (HON.out w1 B1.out)
 clear hb1
 refine hK _ _ (.inr HS1) ?_
 try simp only [Act.put, List.setIfInBounds_toArray, List.set_cons_zero, List.set_cons_succ]
 refine anyL_one (i := 3) aZ3 (by kernel_rfl) rfl (fun K hK => ?_)
 go_simp
 with_reducible refine HON1.out.mono ?_
 rintro e w2 ⟨T2, rows2, rfl, t2, hT2, hb2⟩
 have X2 := hidP (X1.out.below hb2 X1.out.lt)
 have B2 := hidP (B1.out.trans (hb2.mono B1.out.size))
 have KT2 := hidP (KT1.out.below hb2 (Blk.lt KT1.out))
 have HS2 : HeldPm w.heap.size z (.slice a N cap) w2 := ⟨X2.out.cell 0 rfl, X2.out.cell 1 rfl⟩
 have HTU := hidP (turned_any T2 (N + 1) rows2 (onL l) w2 (by omega) (onL_ok HR.out.rgt) (by rw [onL_len, HL.out]) (StpT.of t2) (by have := HR.out.on500; rw [HL.out] at this; exact this))
 clear hb2 t2 hT2
 refine hK _ _ (.inr HS2) ?_
 try simp only [Act.put, List.setIfInBounds_toArray, List.set_cons_zero, List.set_cons_succ]
 refine anyL_one (i := 4) aZ4 (by kernel_rfl) rfl (fun K hK => ?_)
 go_simp
 with_reducible refine HTU.out.mono ?_
 rintro e w3 ⟨T3, rows3, rfl, t3, hT3, hb3⟩
 have X3 := hidP (X2.out.below hb3 X2.out.lt)
 have B3 := hidP (B2.out.trans (hb3.mono B2.out.size))
 have KT3 := hidP (KT2.out.below hb3 (Blk.lt KT2.out))
 have HS3 : HeldPm w.heap.size z (.slice a N cap) w3 := ⟨X3.out.cell 0 rfl, X3.out.cell 1 rfl⟩
 have HCH := hidP (cheapest_any N 1 (N + 1) T3 rows3 (trL (onL l)) w3 (by omega) (by decide) (by omega) (trL_ok (onL_ok HR.out.rgt)) (by rw [trL_len, onL_len, HL.out]) (StpT.of t3) (by have := HR.out.tr500; rw [HL.out] at this; exact this))
 rw [show ((1 : Nat) : Int) = 1 from rfl] at HCH
 clear hb3 t3 hT3
 refine hK _ _ (.inr HS3) ?_
 try simp only [Act.put, List.setIfInBounds_toArray, List.set_cons_zero, List.set_cons_succ]
 refine anyL_one (i := 5) aZ5 (by kernel_rfl) rfl (fun K hK => ?_)
 go_simp
 with_reducible refine HCH.out.mono ?_
 rintro e w4 ⟨T4, rows4, F, rfl, t4, hF, hT4, hb4⟩
 have X4 := hidP (X3.out.below hb4 X3.out.lt)
 have B4 := hidP (B3.out.trans (hb4.mono B3.out.size))
 have KT4 := hidP (KT3.out.below hb4 (Blk.lt KT3.out))
 have HS4 : HeldPm w.heap.size z (.slice a N cap) w4 := ⟨X4.out.cell 0 rfl, X4.out.cell 1 rfl⟩
 have TB4 := hidP t4
 have HF := hidP hF
 have HT4 := hidP (And.intro hT4 (Blk.lt KT3.out))
 clear hb4 t4 hF hT4
 refine hK _ _ (.inr HS4) ?_
 try simp only [Act.put, List.setIfInBounds_toArray, List.set_cons_zero, List.set_cons_succ]
 refine anyL_one (i := 6) aZ6 (by kernel_rfl) rfl (fun K hK => ?_)
 go_simp
 refine hK _ _ (.inr HS4) (anyL_done (by kernel_rfl) (NoPanic.normal ?_))
 try simp only [Act.put, List.setIfInBounds_toArray, List.set_cons_zero, List.set_cons_succ]
 clear HS HS1 HS2 HS3 HS4
 clear HON HON1 HTU HCH
 go_wp2
 have hT4 := HT4.out
 have hTT : T ≠ T4 := by omega
 have hTl : T < w3.heap.size := hT4.2
 have HNO := hidP (fun W => noWay_any W)
 rw [← noK_agg] at HNO
 go_loopw [18] (fun i wr => ∃ (q : Nat) (ks : List Int), q ≤ N ∧ i = .int .i64 q ∧ Hid (ks.length = N ∧ ∀ j, j < q → el ks j = lfK F j) ∧ Hid (KeyT wr T ks) ∧ Hid (RowT 2 encT 69 66 wr w3.heap.size T4 (N + 1) rows4 (fun j => el F j)) ∧ Hid (Below w.heap.size w wr)) (fun i _ => N - (intOf i).toNat)
 case atStart => exact ⟨0, _, Nat.zero_le _, rfl, ⟨by simp, fun j hj => absurd hj (by omega)⟩, KT4, TB4, B4⟩
 case round =>
  obtain ⟨q, ks, hq, rfl, hks, hK, hF4, hb⟩ := hrel
  by_cases hqn : q < N
  ·have hq0 : (0 : Int) ≤ (q : Int) := by omega
   have hq1 : (q : Int) < (N : Int) := by omega
   have hq2 : (q : Int) < (N : Int) + 1 := by omega
   have hqk : q < ks.length := by rw [hks.out.1]; exact hqn
   have HKN := hidP (And.intro hks.out.1 hqk)
   by_cases hlen : (el F q).length = 0
   ·have HS1 : Hid ((ks.set q noK).length = N ∧ ∀ j, j < q + 1 → el (ks.set q noK) j = lfK F j) := by
     refine ⟨by rw [List.length_set]; exact hks.out.1, fun j hj => ?_⟩
     rw [el_setN hqk]
     split
     ·rename_i e
      subst e
      unfold lfK
      rw [if_pos hlen]
     ·exact hks.out.2 j (by omega)
    clear hqk
    go_wp2_with (first
     | (go_at_call 58; go_loud (refine (HNO.out _).mono ?_; rintro e w5 ⟨rfl, hb5⟩; have K5 := hidP (hK.out.below hb5 (Blk.lt hK.out)); have F5 := hidP (hF4.out.later hb5); have B5 := hidP (hb.out.trans (hb5.mono hb.out.size)); obtain ⟨y0, y1⟩ := K5.out.cell HKN.out.2; have z0 := Blk.fz K5.out (q * 2); have z1 := Blk.fz K5.out (q * 2 + 1); have K6 := hidP (K5.out.set HKN.out.2 noK); rw [noK_parts.1, noK_parts.2] at K6; have F6 := hidP ((F5.out.setLow hTl hTT (q * 2) (.int .i64 1000000001)).setLow hTl hTT (q * 2 + 1) (.int .i64 1000000001)); have B6 := hidP ((B5.out.setCell (p := ⟨T, q * 2, none⟩) (by rw [HT.out]; exact Nat.le_succ _) (.int .i64 1000000001)).setCell (p := ⟨T, q * 2 + 1, none⟩) (by rw [HT.out]; exact Nat.le_succ _) (.int .i64 1000000001)); have cF := F6.out.cell (j := q) (by omega); obtain ⟨a6, cap6, hv6, _⟩ := rowT_get (F6.out.Row encT_len (j := q) (by omega)); rw [hv6, hlen] at cF; clear hb5 hv6)))
    go_roundw
    case rel => exact ⟨q + 1, _, by omega, by go_num, HS1, K6, F6, B6⟩
    case measure => simp [intOf]; omega
   ·have hl0 : 0 < (el F q).length := by omega
    have hl0z : (0 : Int) < ((el F q).length : Int) := by omega
    have HS1 : Hid (((ks.set q noK).set q (el (el F q) 0)).length = N ∧ ∀ j, j < q + 1 → el ((ks.set q noK).set q (el (el F q) 0)) j = lfK F j) := by
     refine ⟨by rw [List.length_set, List.length_set]; exact hks.out.1, fun j hj => ?_⟩
     rw [el_setN (by rw [List.length_set]; exact hqk)]
     split
     ·rename_i e
      subst e
      unfold lfK
      rw [if_neg hlen]
     ·rename_i e
      rw [el_setN hqk, if_neg e]
      exact hks.out.2 j (by omega)
    have HSL : Hid (q < (ks.set q noK).length) := by show _ < _; rw [List.length_set]; exact hqk
    clear hqk hlen
    go_wp2_with (first
     | (go_at_call 58; refine (HNO.out _).mono ?_; rintro e w5 ⟨rfl, hb5⟩; have K5 := hidP (hK.out.below hb5 (Blk.lt hK.out)); have F5 := hidP (hF4.out.later hb5); have B5 := hidP (hb.out.trans (hb5.mono hb.out.size)); obtain ⟨y0, y1⟩ := K5.out.cell HKN.out.2; have z0 := Blk.fz K5.out (q * 2); have z1 := Blk.fz K5.out (q * 2 + 1); have K6 := hidP (K5.out.set HKN.out.2 noK); rw [noK_parts.1, noK_parts.2] at K6; have F6 := hidP ((F5.out.setLow hTl hTT (q * 2) (.int .i64 1000000001)).setLow hTl hTT (q * 2 + 1) (.int .i64 1000000001)); have B6 := hidP ((B5.out.setCell (p := ⟨T, q * 2, none⟩) (by rw [HT.out]; exact Nat.le_succ _) (.int .i64 1000000001)).setCell (p := ⟨T, q * 2 + 1, none⟩) (by rw [HT.out]; exact Nat.le_succ _) (.int .i64 1000000001)); obtain ⟨g6, cap6, hv6, _, _, hg6⟩ := own_someW (F5.out.row q (by omega)) hl0; have hn6 : g6 ≠ T := (by omega); have ho6 := F5.out.row q (by omega); rw [hv6] at ho6; obtain ⟨e0, e1⟩ := own_twn0 ho6 hl0; have cF := F6.out.cell (j := q) (by omega); rw [hv6] at cF; clear ho6 hg6; obtain ⟨u0, u1⟩ := K6.out.cell HSL.out; have v0 := Blk.fz K6.out (q * 2); have v1 := Blk.fz K6.out (q * 2 + 1); have K7 := hidP (K6.out.set HSL.out (el (el F q) 0)); have F7 := hidP ((F6.out.setLow hTl hTT (q * 2) (.int .i64 (kA (el (el F q) 0)))).setLow hTl hTT (q * 2 + 1) (.int .i64 (kB (el (el F q) 0)))); have B7 := hidP ((B6.out.setCell (p := ⟨T, q * 2, none⟩) (by rw [HT.out]; exact Nat.le_succ _) (.int .i64 (kA (el (el F q) 0)))).setCell (p := ⟨T, q * 2 + 1, none⟩) (by rw [HT.out]; exact Nat.le_succ _) (.int .i64 (kB (el (el F q) 0)))); clear hb5 hv6))
    go_roundw
    case rel => exact ⟨q + 1, _, by omega, by go_num, HS1, K7, F7, B7⟩
    case measure => simp [intOf]; omega
  ·have hnl : ¬ (q : Int) < (N : Int) := by omega
   have HKS : Hid (ks.length = N ∧ ∀ j, j < N → el ks j = lfK F j) := ⟨hks.out.1, fun j hj => hks.out.2 j (by omega)⟩
   have HTW : Hid (w.heap.size ≤ T) := by show _ ≤ _; rw [HT.out]; exact Nat.le_succ _
   go_wp2
   go_ret
   exact ⟨_, rfl, ks, hK.out, HKS.out.1, F, HKS.out.2, HF.out, HTW.out, hb.out⟩
end Go.Proofs.Ytfpibdaedfilaaa.Bw
