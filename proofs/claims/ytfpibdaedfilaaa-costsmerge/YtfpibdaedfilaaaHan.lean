/- The program: one or the other, one behind the other, again and again. -/
import Derived.Test.YtfpibdaedfilaaaHam
import Derived.Test.YtfpibdaedfilaaaHaf
namespace Go.Proofs.Ytfpibdaedfilaaa.Wt
open Go.ChangeShapes Go.WideShapes Go.ChangeAt Go.RowKit
open Go.Proofs.Ytfpibdaedfilaaa.Pl
set_option linter.unusedVariables false
set_option linter.unusedSimpArgs false
theorem fit_of {x : Mc} (h : sizeB x = true → faultM x = 0) : (if faultM x = 0 then x else (0, [])) = fitM x ∧ (if faultM x = 0 then (0 : Int) else 5) = fitE x := by
 unfold fitM fitE
 by_cases hs : sizeB x = true
 ·rw [if_pos hs, if_pos hs, if_pos (h hs), if_pos (h hs)]; exact ⟨rfl, rfl⟩
 ·have h0 : faultM x ≠ 0 := fun e => hs (faultM_zero e).1
  rw [if_neg hs, if_neg hs, if_neg h0, if_neg h0]; exact ⟨rfl, rfl⟩
theorem el_arcN {l : List St} {j : Nat} (hj : j < l.length) : (el l j).2.length ≤ arcN l := by
 have h1 := arcN_take hj
 have h2 := arcN_takeR l (j + 1)
 omega
def mvL (d : Nat) (l : List St) : List St := l.map (fun s => shS (d : Int) s.1 [] s)
def staN (z : Int) (d : Nat) : Int := if z = -1 then -1 else z + (d : Int)
theorem mvL_len (d : Nat) (l : List St) : (mvL d l).length = l.length := by simp [mvL]
theorem mvL_arcs (d : Nat) (l : List St) : arcN (mvL d l) = arcN l := arcN_sh l d (fun s => s.1)
theorem lnk_hop (z : Int) (d : Nat) (x f : Int) (ar : List Ar) (hz : -1 ≤ z) : lnkS (staN z d) x (f, ar) = (f, ar ++ hopA z (d : Int) x) := by
 unfold lnkS staN hopA
 by_cases h : z = -1
 ·simp [h]
 ·rw [if_neg h, if_neg (by omega), if_neg (by omega)]
def uniL0 : List St := [(1000000001, [])]
def uniL1 (a : Mc) : List St := (1000000001, hopA a.1 1 0) :: mvL 1 a.2
theorem uni_step1 (a : Mc) (hz : -1 ≤ a.1) : (uniL0 ++ mvL 1 a.2).set 0 (lnkS (staN a.1 1) 0 (el (uniL0 ++ mvL 1 a.2) 0)) = uniL1 a := by
 show (lnkS (staN a.1 1) 0 (1000000001, [])) :: mvL 1 a.2 = _
 rw [lnk_hop _ _ _ _ _ hz]
 rfl
theorem uni_step2 (a b : Mc) (hz : -1 ≤ b.1) : (uniL1 a ++ mvL (1 + a.2.length) b.2).set 0 (lnkS (staN b.1 (1 + a.2.length)) 0 (el (uniL1 a ++ mvL (1 + a.2.length) b.2) 0)) = (uniM a b).2 := by
 show (lnkS (staN b.1 (1 + a.2.length)) 0 (1000000001, hopA a.1 1 0)) :: (mvL 1 a.2 ++ mvL (1 + a.2.length) b.2) = _
 rw [lnk_hop _ _ _ _ _ hz]
 unfold uniM mvL
 simp
theorem boxedFour {w w1 : World} {c0 c1 c2 c3 : Array Value} {t0 t1 t2 t3 : TypeId} {n : Nat} (hb : Below n ((((w.alloc (.cells c0 t0)).alloc (.cells c1 t1)).alloc (.cells c2 t2)).alloc (.cells c3 t3)) w1) (hn : n = w.heap.size + 4) : w.heap.size + 4 ≤ w1.heap.size ∧ Blk w1 w.heap.size c0 t0 ∧ Blk w1 (w.heap.size + 1) c1 t1 ∧ Blk w1 (w.heap.size + 2) c2 t2 ∧ Blk w1 (w.heap.size + 3) c3 t3 ∧ Below w.heap.size w w1 := by
 subst hn
 have h := hb.size
 simp only [World.size_alloc] at h
 have k1 := Blk.made (w.alloc (.cells c0 t0)) c1 t1
 have k2 := Blk.made ((w.alloc (.cells c0 t0)).alloc (.cells c1 t1)) c2 t2
 have k3 := Blk.made (((w.alloc (.cells c0 t0)).alloc (.cells c1 t1)).alloc (.cells c2 t2)) c3 t3
 simp only [World.size_alloc] at k1 k2 k3
 exact ⟨h, ((((Blk.made w c0 t0).alloc _).alloc _).alloc _).below hb (by omega), ((k1.alloc _).alloc _).below hb (by omega), (k2.alloc _).below hb (by omega), k3.below hb (by omega), (((((Below.refl _ _).alloc (Nat.le_refl _) _).alloc (by simp) _).alloc (by simp; omega) _).alloc (by simp; omega) _).trans (hb.mono (by omega))⟩
theorem res_uni (tm : Array Value) (W : World) (R : Nat) (ec : Int) (x0 x1 : Value) (hB : Blk W R #[x0, x1] 27) (h2 : tm.getD 4 undef = .pointer (some ⟨R, 0, none⟩)) (h3 : tm.getD 5 undef = .int .i64 ec) : (results Try.f20 tm).run Try.prog W = .ok (.tuple #[.agg #[x0, x1], .int .i64 ec]) W := by
 have c0 := hB.cell 0 (v := x0) rfl
 have c1 := hB.cell 1 (v := x1) rfl
 simp only [Array.getD_eq_getD_getElem?] at h2 h3
 simp [results, Try.results20, go_sem, h2, h3, c0, c1]
set_option maxRecDepth 100000 in
theorem uniP_bad (va vb : Value) (ma mb : Mc) (w : World) (ha : Mach w va ma) (hoka : okM ma) (hb : Mach w vb mb) (hokb : okM mb) (r : Int) (hr : (if faultM ma ≠ 0 then faultM ma else faultM mb) = r) (h0 : r ≠ 0) :
  Calls Try.prog 20 #[va, vb] w fun e w' => RatRes (0, []) r w e w' := by
 obtain ⟨za, la⟩ := ma
 obtain ⟨zb, lb⟩ := mb
 have h0' : (r != 0) = true := bne_iff_ne.2 h0
 obtain ⟨vsa, rfl, hSa⟩ := ha
 obtain ⟨aa, ca, rfl⟩ := hSa.sl
 obtain ⟨vsb, rfl, hSb⟩ := hb
 obtain ⟨ab, cb, rfl⟩ := hSb.sl
 have HMA : Hid (Mach w (.agg #[.int .i64 za, .slice aa la.length ca]) (za, la)) := ⟨_, rfl, hSa⟩
 have HMB : Hid (Mach w (.agg #[.int .i64 zb, .slice ab lb.length cb]) (zb, lb)) := ⟨_, rfl, hSb⟩
 have HKA := hidP hoka
 have HKB := hidP hokb
 have HRR := hidP hr
 clear hSa hSb hoka hokb hr h0
 generalize hna : la.length = na at *
 generalize hnb : lb.length = nb at *
 have HNA := hidP hna
 have HNB := hidP hnb
 clear hna hnb
 have HC : Hid (∀ W, Below w.heap.size w W → Calls Try.prog 37 #[.agg #[.int .i64 za, .slice aa na ca, .int .i64 zb, .slice ab nb cb]] W fun e w' => e = .returned (.int .i64 r) ∧ Below W.heap.size W w') := fun W hW => by
  have h9 := check2_any za zb aa ab ca cb la lb W (by rw [HNA.out]; exact HMA.out.later hW (Nat.le_refl _)) HKA.out (by rw [HNB.out]; exact HMB.out.later hW (Nat.le_refl _)) HKB.out
  rw [HRR.out, HNA.out, HNB.out] at h9
  exact h9
 go_enter Try.func20, Try.ntmps20
 go_wp2_with (first
  | (go_at_call 37; (with_reducible refine (HC.out _ (by go_grown)).mono ?_); rintro e w1 ⟨rfl, hb⟩; obtain ⟨s1, b1, b2, b3, b4, hb1⟩ := boxedFour hb (by simp); have HB1 : Hid (Below w.heap.size w w1) := hb1; have KR := hidP b3; have e0 := b3.cell 0 (v := .int .i64 0) rfl; have e1 := b3.cell 1 (v := .slice none 0 0) rfl; have g0 := b3.fz 0; have g1 := b3.fz 1; clear b1 b2 b3 b4 hb1 hb))
 exact bodyPost_ret (res_uni _ _ (w.heap.size + 2) r _ _ ((KR.out.set 0 (.int .i64 0)).set 1 (.slice none 0 0)) rfl rfl) rfl ⟨_, rfl, mach_zeroR _, (HB1.out.setCell (p := ⟨w.heap.size + 2, 0, none⟩) (by show w.heap.size ≤ w.heap.size + 2; omega) _).setCell (p := ⟨w.heap.size + 2, 1, none⟩) (by show w.heap.size ≤ w.heap.size + 2; omega) _⟩
set_option maxRecDepth 100000 in
set_option maxHeartbeats 1600000 in
theorem unionP_ok (va vb : Value) (ma mb : Mc) (w : World) (ha : Mach w va ma) (hoka : okM ma) (hb : Mach w vb mb) (hokb : okM mb) (h0a : faultM ma = 0) (h0b : faultM mb = 0) :
  Calls Try.prog 20 #[va, vb] w fun e w' => RatRes (fitM (uniM ma mb)) (fitE (uniM ma mb)) w e w' := by
 obtain ⟨za, la⟩ := ma
 obtain ⟨zb, lb⟩ := mb
 obtain ⟨⟨hz1, hz2⟩, _⟩ := right_parts h0a
 obtain ⟨⟨hy1, hy2⟩, _⟩ := right_parts h0b
 have a60 := (right_size h0a).1
 have a400 := (right_size h0a).2
 have b60 := (right_size h0b).1
 have b400 := (right_size h0b).2
 simp only at hz1 hz2 hy1 hy2 a60 a400 b60 b400
 obtain ⟨vsa, rfl, hSa⟩ := ha
 obtain ⟨aa, ca, rfl⟩ := hSa.sl
 obtain ⟨vsb, rfl, hSb⟩ := hb
 obtain ⟨ab, cb, rfl⟩ := hSb.sl
 have HMA : Hid (Mach w (.agg #[.int .i64 za, .slice aa la.length ca]) (za, la)) := ⟨_, rfl, hSa⟩
 have HMB : Hid (Mach w (.agg #[.int .i64 zb, .slice ab lb.length cb]) (zb, lb)) := ⟨_, rfl, hSb⟩
 have HC : Hid (∀ W, Below w.heap.size w W → Calls Try.prog 37 #[.agg #[.int .i64 za, .slice aa la.length ca, .int .i64 zb, .slice ab lb.length cb]] W fun e w' => e = .returned (.int .i64 0) ∧ Below W.heap.size W w') := fun W hW => by
  have h9 := check2_any za zb aa ab ca cb la lb W (HMA.out.later hW (Nat.le_refl _)) hoka (HMB.out.later hW (Nat.le_refl _)) hokb
  rw [if_neg (by simp [h0a]), h0b] at h9
  exact h9
 have HF := hidP (fit_of (x := uniM (za, la) (zb, lb)) (uniM_right h0a h0b))
 have HOK : Hid (okM (0, (uniM (za, la) (zb, lb)).2)) := by
  have h5 := uniM_len (za, la) (zb, lb)
  have h6 := uniM_arcs (za, la) (zb, lb)
  simp only at h5 h6
  exact small_ok (by simp only; omega) (by simp only; omega)
 have hu0 : arcN (uniL0 ++ mvL 1 la) = arcN la := by simp [uniL0, arcN, mvL_arcs]
 have hu1 : arcN (uniL1 (za, la) ++ mvL (1 + la.length) lb) ≤ 1 + arcN la + arcN lb := by
  have h3 := hopA_le za 1 0
  have : arcN (uniL1 (za, la) ++ mvL (1 + la.length) lb) = (hopA za 1 0).length + arcN la + arcN lb := by simp [uniL1, arcN, arcN_append, mvL_arcs]; omega
  omega
 have hl0 : (uniL0 ++ mvL 1 la).length = la.length + 1 := by simp [uniL0, mvL_len]
 have hl1 : (uniL1 (za, la)).length = 1 + la.length := by simp [uniL1, mvL_len]; omega
 have hl2 : (uniL1 (za, la) ++ mvL (1 + la.length) lb).length = 1 + la.length + lb.length := by rw [List.length_append, hl1, mvL_len]
 have hA0 : Hid (∀ W2 b base, Bui W2 84 base b 0 uniL0 → b < base → base ≤ W2.heap.size → Below w.heap.size w W2 → w.heap.size ≤ b → Calls Try.prog 39 #[.pointer (some ⟨b, 0, none⟩), .agg #[.int .i64 za, .slice aa la.length ca]] W2 fun e W' => e = .returned (.int .i64 (staN za 1)) ∧ Bui W' 84 base b 0 (uniL0 ++ mvL 1 la) ∧ Below b W2 W' ∧ Kept (some b) W2 W') := fun W2 b base h1 h2 h3 h4 h5 => add_any b base 0 uniL0 (za, la) _ w W2 h1 h2 h3 HMA.out h4 h5 h0a (by simp [uniL0])
 have hK0 : Hid (∀ W2 b base, Bui W2 84 base b 0 (uniL0 ++ mvL 1 la) → b < base → base ≤ W2.heap.size → Calls Try.prog 40 #[.pointer (some ⟨b, 0, none⟩), .int .i64 0, .int .i64 (staN za 1), .int .i64 0] W2 fun e W' => e = .returned (.tuple #[]) ∧ Bui W' 84 base b 0 (uniL1 (za, la)) ∧ Below b W2 W' ∧ Kept (some b) W2 W') := fun W2 b base h1 h2 h3 => by
  have h8 := el_arcN (l := uniL0 ++ mvL 1 la) (j := 0) (by omega)
  have h9 := link_any b base 0 0 (staN za 1) 0 (uniL0 ++ mvL 1 la) W2 h1 h2 h3 (by omega) (by omega) (by omega)
  rw [uni_step1 (za, la) hz1] at h9
  exact h9
 have hA1 : Hid (∀ W2 b base, Bui W2 84 base b 0 (uniL1 (za, la)) → b < base → base ≤ W2.heap.size → Below w.heap.size w W2 → w.heap.size ≤ b → Calls Try.prog 39 #[.pointer (some ⟨b, 0, none⟩), .agg #[.int .i64 zb, .slice ab lb.length cb]] W2 fun e W' => e = .returned (.int .i64 (staN zb (1 + la.length))) ∧ Bui W' 84 base b 0 (uniL1 (za, la) ++ mvL (1 + la.length) lb) ∧ Below b W2 W' ∧ Kept (some b) W2 W') := fun W2 b base h1 h2 h3 h4 h5 => by
  have h9 := add_any b base 0 (uniL1 (za, la)) (zb, lb) _ w W2 h1 h2 h3 HMB.out h4 h5 h0b (by omega)
  rw [hl1] at h9
  exact h9
 have hK1 : Hid (∀ W2 b base, Bui W2 84 base b 0 (uniL1 (za, la) ++ mvL (1 + la.length) lb) → b < base → base ≤ W2.heap.size → Calls Try.prog 40 #[.pointer (some ⟨b, 0, none⟩), .int .i64 0, .int .i64 (staN zb (1 + la.length)), .int .i64 0] W2 fun e W' => e = .returned (.tuple #[]) ∧ Bui W' 84 base b 0 (uniM (za, la) (zb, lb)).2 ∧ Below b W2 W' ∧ Kept (some b) W2 W') := fun W2 b base h1 h2 h3 => by
  have h8 := el_arcN (l := uniL1 (za, la) ++ mvL (1 + la.length) lb) (j := 0) (by omega)
  have h9 := link_any b base 0 0 (staN zb (1 + la.length)) 0 _ W2 h1 h2 h3 (by omega) (by omega) (by omega)
  have h7 := uni_step2 (za, la) (zb, lb) hy1
  simp only at h7
  rw [h7] at h9
  exact h9
 have HE0 : (0, (uniM (za, la) (zb, lb)).2) = uniM (za, la) (zb, lb) := rfl
 rw [← HF.out.1, ← HF.out.2]
 clear hSa hSb hoka hokb h0a h0b HF hu0 hu1 hl0 hl1 hl2
 generalize uniM (za, la) (zb, lb) = X at *
 obtain ⟨X0, X1⟩ := X
 have hX0 : X0 = 0 := (congrArg Prod.fst HE0).symm
 subst hX0
 clear HE0
 have hA4 : Hid (∀ W2 b base, Bui W2 84 base b 0 X1 → base ≤ W2.heap.size → Calls Try.prog 41 #[.pointer (some ⟨b, 0, none⟩)] W2 fun e W' => BuiRes base (if faultM (0, X1) = 0 then (0, X1) else (0, [])) (if faultM (0, X1) = 0 then 0 else 5) W2 e W') := fun W2 b base h1 h2 => built_any b base 0 X1 W2 h1 h2 HOK.out
 generalize (if faultM ((0, X1) : Mc) = 0 then ((0, X1) : Mc) else ((0, []) : Mc)) = XM at *
 generalize (if faultM (0, X1) = 0 then (0 : Int) else 5) = XE at *
 obtain ⟨M0, M1⟩ := XM
 generalize uniL0 ++ mvL 1 la = V0 at *
 generalize uniL1 (za, la) ++ mvL (1 + la.length) lb = V1 at *
 generalize uniL1 (za, la) = U1 at *
 generalize staN za 1 = sa at *
 generalize staN zb (1 + la.length) = sb at *
 obtain ⟨UU, u0, u1, u2⟩ : ∃ UU : Int → List St, UU 0 = uniL0 ∧ UU 1 = U1 ∧ UU 2 = X1 := ⟨fun k => if k = 0 then uniL0 else if k = 1 then U1 else X1, rfl, rfl, rfl⟩
 have HU0 := hidP u0
 have HU1 := hidP u1
 have HU2 := hidP u2
 clear u0 u1 u2
 generalize hna : la.length = na at *
 generalize hnb : lb.length = nb at *
 clear hna hnb
 have i0 := idx2_0 (.int .i64 za) (.slice aa na ca) (.int .i64 zb) (.slice ab nb cb)
 have i1 := idx2_1 (.int .i64 za) (.slice aa na ca) (.int .i64 zb) (.slice ab nb cb)
 go_enter Try.func20, Try.ntmps20
 go_wp2_with (first
  | (go_at_call 37; (with_reducible refine (HC.out _ (by go_grown)).mono ?_); rintro e w1 ⟨rfl, hb⟩; obtain ⟨s1, b1, b2, b3, b4, hb1⟩ := boxedFour hb (by simp); have HB1 : Hid (Below w.heap.size w w1) := hb1; have KR := hidP b3; have KT := hidP b4; have HV := hidP (Blk.made w1 #[.int .i64 0, .slice none 0 0] 84); clear b1 b2 b3 b4 hb1 hb)
  | (go_at_call 38; (with_reducible refine (begin_any w1.heap.size (w1.heap.size + 1) (.slice none 0 0) 0 1000000001 _ HV.out (by omega) (by simp) rfl).mono ?_); rintro e w2 ⟨rfl, hB2, hb2, hk2⟩; have HQ2 := hidP hB2; have HX2 := hidP (((Below.refl w1.heap.size w1).alloc (Nat.le_refl _) _).trans hb2); have t0 := (KT.out.below HX2.out (by omega)).cell 0 (v := .int .i64 za) rfl; have t1 := (KT.out.below HX2.out (by omega)).cell 1 (v := .slice aa na ca) rfl; have t2 := (KT.out.below HX2.out (by omega)).cell 2 (v := .int .i64 zb) rfl; have t3 := (KT.out.below HX2.out (by omega)).cell 3 (v := .slice ab nb cb) rfl; have s2 : w1.heap.size + 1 ≤ w2.heap.size := (by have := hb2.size; simp at this; omega); clear hB2 hb2 hk2))
 go_loopw [23] (fun i wr => ∃ (k : Int), 0 ≤ k ∧ k ≤ 2 ∧ i = .int .i64 k ∧ w1.heap.size + 1 ≤ wr.heap.size ∧ Hid (Bui wr 84 (w1.heap.size + 1) w1.heap.size 0 (UU k)) ∧ Hid (Below w1.heap.size w1 wr)) (fun i _ => 2 - (intOf i).toNat)
 case atStart => exact ⟨0, by omega, by omega, rfl, s2, by rw [HU0.out]; exact HQ2, HX2⟩
 case round =>
  obtain ⟨k, hk0, hk, rfl, hsr, hB, hb⟩ := hrel
  have HW := hidP (HB1.out.trans (hb.out.mono (by omega)))
  rcases (show k = 0 ∨ k = 1 ∨ k = 2 by omega) with rfl | rfl | rfl
  ·rw [HU0.out] at hB
   go_wp2_with (first
    | (go_at_call 39; (with_reducible refine (hA0.out _ w1.heap.size (w1.heap.size + 1) (hB.out.later ((Below.refl _ _).alloc (Nat.le_refl _) _)) (by omega) (by simp; omega) (HW.out.alloc HW.out.size _) (by omega)).mono ?_); rintro e w3 ⟨rfl, hB3, hb3, hk3⟩; have HQ3 := hidP hB3; have HX3 := hidP ((hb.out.alloc (by omega) _).trans hb3); have s3 : w1.heap.size + 1 ≤ w3.heap.size := (by have := hb3.size; simp at this; omega); obtain ⟨v3, q3, _⟩ := hB3; have e3 := q3.cell 0 (v := .int .i64 0) rfl; clear q3 hb3 hk3)
    | (go_at_call 40; (with_reducible refine (hK0.out _ w1.heap.size (w1.heap.size + 1) HQ3.out (by omega) s3).mono ?_); rintro e w4 ⟨rfl, hB4, hb4, hk4⟩; have HQ4 := hidP hB4; have HX4 := hidP (HX3.out.trans hb4); have s4 : w1.heap.size + 1 ≤ w4.heap.size := (by have := hb4.size; omega); clear hB4 hb4 hk4))
   go_roundw
   case rel => exact ⟨1, by omega, by omega, by go_num, s4, by rw [HU1.out]; exact HQ4, HX4⟩
   case measure => simp [intOf]
  ·rw [HU1.out] at hB
   go_wp2_with (first
    | (go_at_call 39; (with_reducible refine (hA1.out _ w1.heap.size (w1.heap.size + 1) (hB.out.later ((Below.refl _ _).alloc (Nat.le_refl _) _)) (by omega) (by simp; omega) (HW.out.alloc HW.out.size _) (by omega)).mono ?_); rintro e w3 ⟨rfl, hB3, hb3, hk3⟩; have HQ3 := hidP hB3; have HX3 := hidP ((hb.out.alloc (by omega) _).trans hb3); have s3 : w1.heap.size + 1 ≤ w3.heap.size := (by have := hb3.size; simp at this; omega); obtain ⟨v3, q3, _⟩ := hB3; have e3 := q3.cell 0 (v := .int .i64 0) rfl; clear q3 hb3 hk3)
    | (go_at_call 40; (with_reducible refine (hK1.out _ w1.heap.size (w1.heap.size + 1) HQ3.out (by omega) s3).mono ?_); rintro e w4 ⟨rfl, hB4, hb4, hk4⟩; have HQ4 := hidP hB4; have HX4 := hidP (HX3.out.trans hb4); have s4 : w1.heap.size + 1 ≤ w4.heap.size := (by have := hb4.size; omega); clear hB4 hb4 hk4))
   go_roundw
   case rel => exact ⟨2, by omega, by omega, by go_num, s4, by rw [HU2.out]; exact HQ4, HX4⟩
   case measure => simp [intOf]
  ·rw [HU2.out] at hB
   go_wp2_with (first
    | (go_at_call 41; (with_reducible refine (hA4.out _ w1.heap.size (w1.heap.size + 1) hB.out hsr).mono ?_); rintro e w6 ⟨v6, rfl, ho6, hb6⟩; obtain ⟨a6, c6, hv6⟩ := ho6.sts.sl; subst hv6; have HO6 := hidP ho6; have HX6 := hidP (hb.out.trans (hb6.mono (by omega))); have KR6 := hidP (KR.out.below HX6.out (by omega)); have f0 := KR6.out.cell 0 (v := .int .i64 0) rfl; have f1 := KR6.out.cell 1 (v := .slice none 0 0) rfl; have g0 := KR6.out.fz 0; have g1 := KR6.out.fz 1; clear ho6 hb6))
   exact bodyPost_ret (res_uni _ _ (w.heap.size + 2) XE _ _ ((KR6.out.set 0 (.int .i64 M0)).set 1 (.slice a6 M1.length c6)) rfl rfl) rfl (BuiRes.rat (x := (M0, M1)) HO6.out (by omega) (HB1.out.trans (HX6.out.mono (by omega))) (by omega))
theorem unionP_any (va vb : Value) (ma mb : Mc) (w : World) (ha : Mach w va ma) (hoka : okM ma) (hb : Mach w vb mb) (hokb : okM mb) :
  Calls Try.prog 20 #[va, vb] w fun e w' => RatRes (ratM ma mb (uniM ma mb)) (ratE ma mb (uniM ma mb)) w e w' := by
 unfold ratM ratE
 by_cases h0 : faultM ma = 0
 ·have n0 : ¬ faultM ma ≠ 0 := by simp [h0]
  rw [if_neg n0, if_neg n0]
  by_cases h1 : faultM mb = 0
  ·have n1 : ¬ faultM mb ≠ 0 := by simp [h1]
   rw [if_neg n1, if_neg n1]
   exact unionP_ok va vb ma mb w ha hoka hb hokb h0 h1
  ·rw [if_pos h1, if_pos h1]
   exact uniP_bad va vb ma mb w ha hoka hb hokb _ (if_neg n0) h1
 ·rw [if_pos h0, if_pos h0]
  exact uniP_bad va vb ma mb w ha hoka hb hokb _ (if_pos h0) h0
end Go.Proofs.Ytfpibdaedfilaaa.Wt
namespace Go.Proofs.Ytfpibdaedfilaaa.Pl
set_option linter.unusedVariables false
set_option linter.unusedSimpArgs false
def fE (l : List St) (q c : Nat) : Nat := if (el l q).1 ≠ 1000000001 ∧ (el l q).1.toNat ≤ c then 1 else 0
def eN (l : List St) : Nat → Nat → Nat → Nat
 | 0 => fE l
 | k + 1 => fun q c => ((el l q).2.map fun a => if a.2.2.1.toNat ≤ c then eN l k a.2.2.2.toNat (c - a.2.2.1.toNat) else 0).sum
def sN (l : List St) (k q c : Nat) : Nat := ((List.range k).map fun j => eN l j q c).sum
theorem sN_zero (l : List St) (q c : Nat) : sN l 0 q c = 0 := rfl
theorem sN_succ (l : List St) (k q c : Nat) : sN l (k + 1) q c = sN l k q c + eN l k q c := by
 unfold sN
 rw [List.range_succ, List.map_append, List.sum_append]
 simp
theorem sum_add {α : Type} (L : List α) (f g : α → Nat) : (L.map fun a => f a + g a).sum = (L.map f).sum + (L.map g).sum := by
 induction L with
 | nil => rfl
 | cons a L ih => simp only [List.map_cons, List.sum_cons, ih]; omega
theorem sum_none {α : Type} {L : List α} {f : α → Nat} (h : ∀ a ∈ L, f a = 0) : (L.map f).sum = 0 := by
 induction L with
 | nil => rfl
 | cons a L ih => rw [List.map_cons, List.sum_cons, h a (List.mem_cons_self ..), ih fun b hb => h b (List.mem_cons_of_mem _ hb)]
theorem one_at_most {K : Nat} {D : List Nat} (hd : D.Nodup) (h : ∀ j ∈ D, j = K) : D.length ≤ 1 := by
  match D, hd, h with
  | [], _, _ => exact Nat.zero_le _
  | [_], _, _ => exact Nat.le_refl _
  | a :: b :: D, hd, h =>
    have h1 := h a (by simp)
    have h2 := h b (by simp)
    rw [List.nodup_cons] at hd
    exact absurd (by rw [h1, h2]; simp) hd.1
theorem sN_front (l : List St) (k q c : Nat) : sN l (k + 1) q c = fE l q c + ((el l q).2.map fun a => if a.2.2.1.toNat ≤ c then sN l k a.2.2.2.toNat (c - a.2.2.1.toNat) else 0).sum := by
  induction k with
  | zero =>
    rw [sN_succ, sN_zero, Nat.zero_add]
    have : ((el l q).2.map fun a => if a.2.2.1.toNat ≤ c then sN l 0 a.2.2.2.toNat (c - a.2.2.1.toNat) else 0).sum = 0 := by
      refine sum_none fun a _ => ?_
      rw [sN_zero]
      split <;> rfl
    rw [this]; rfl
  | succ k ih =>
    rw [sN_succ, ih]
    have : ((el l q).2.map fun a => if a.2.2.1.toNat ≤ c then sN l (k + 1) a.2.2.2.toNat (c - a.2.2.1.toNat) else 0).sum = ((el l q).2.map fun a => if a.2.2.1.toNat ≤ c then sN l k a.2.2.2.toNat (c - a.2.2.1.toNat) else 0).sum + eN l (k + 1) q c := by
      show _ = _ + ((el l q).2.map fun a => if a.2.2.1.toNat ≤ c then eN l k a.2.2.2.toNat (c - a.2.2.1.toNat) else 0).sum
      rw [← sum_add]
      congr 1
      refine List.map_congr_left fun a _ => ?_
      split
      · rw [sN_succ]
      · rfl
    omega
theorem sN_mono (l : List St) {j k : Nat} (h : j ≤ k) (q c : Nat) : sN l j q c ≤ sN l k q c := by
 induction h with
 | refl => exact Nat.le_refl _
 | step _ ih => rw [sN_succ]; omega
theorem sum_pos {L : List Nat} (h : 0 < L.sum) : ∃ x ∈ L, 0 < x := by
  induction L with
  | nil => cases h
  | cons a L ih =>
    rw [List.sum_cons] at h
    by_cases ha : 0 < a
    · exact ⟨a, List.mem_cons_self .., ha⟩
    · obtain ⟨x, hx, h0⟩ := ih (by omega)
      exact ⟨x, List.mem_cons_of_mem _ hx, h0⟩
theorem sum_ge {L : List Nat} {x : Nat} (h : x ∈ L) : x ≤ L.sum := by
  induction L with
  | nil => cases h
  | cons a L ih =>
    rw [List.sum_cons]
    rcases List.mem_cons.1 h with rfl | h
    · omega
    · have := ih h; omega
theorem eN_pos {l : List St} (hto : ∀ q, q < l.length → ∀ a ∈ (el l q).2, ∃ t : Nat, a.2.2.2 = (t : Int) ∧ t < l.length) : ∀ {k q c : Nat}, q < l.length → (0 < eN l k q c ↔ ∃ p d, Run (ArcE l) q k p d ∧ p < l.length ∧ (el l p).1 ≠ 1000000001 ∧ d + (el l p).1.toNat ≤ c)
  | 0, q, c, hq => by
    show 0 < fE l q c ↔ _
    unfold fE
    constructor
    · intro h
      split at h
      · rename_i g
        exact ⟨q, 0, .nil, hq, g.1, by omega⟩
      · cases h
    · rintro ⟨p, d, h, h1, h2, h3⟩
      cases h
      rw [if_pos ⟨h2, by omega⟩]; exact Nat.one_pos
  | k + 1, q, c, hq => by
    show 0 < ((el l q).2.map _).sum ↔ _
    constructor
    · intro h
      obtain ⟨x, hx, h0⟩ := sum_pos h
      obtain ⟨a, ha, rfl⟩ := List.mem_map.1 hx
      split at h0
      · rename_i g
        obtain ⟨t, e1, e2⟩ := hto q hq a ha
        rw [e1, Int.toNat_natCast] at h0
        obtain ⟨p, d, h1, h2, h3, h4⟩ := (eN_pos hto e2).1 h0
        exact ⟨p, a.2.2.1.toNat + d, Run.first ⟨a, ha, e1, rfl⟩ h1, h2, h3, by omega⟩
      · cases h0
    · rintro ⟨p, d, h, h1, h2, h3⟩
      obtain ⟨j, w, d', ⟨a, ha, e1, rfl⟩, h4, rfl⟩ := h.head
      obtain ⟨t, f1, f2⟩ := hto q hq a ha
      have ej : j = t := by omega
      subst ej
      refine Nat.lt_of_lt_of_le ?_ (sum_ge (List.mem_map.2 ⟨a, ha, rfl⟩))
      rw [if_pos (by omega), e1, Int.toNat_natCast]
      exact (eN_pos hto f2).2 ⟨p, d', h4, h1, h2, by omega⟩
theorem split_len {α : Type} (p : α → Bool) (L : List α) : L.length = (L.filter p).length + (L.filter fun i => !p i).length := by
  induction L with
  | nil => rfl
  | cons a L ih =>
    cases h : p a <;> simp [List.filter_cons, h] <;> omega
theorem pigeonM {f : Nat → Nat} {m : Nat} : ∀ (N : Nat) (L : List Nat), (∀ i ∈ L, f i < N) → (∀ s, s < N → (L.filter fun i => f i == s).length ≤ m) → L.length ≤ N * m
  | 0, L, h, _ => by
    cases L with
    | nil => exact Nat.zero_le _
    | cons a L => exact absurd (h a (List.mem_cons_self ..)) (Nat.not_lt_zero _)
  | N + 1, L, h, g => by
    have h1 := pigeonM (f := f) (m := m) N (L.filter fun i => !(f i == N)) (fun i hi => by
      obtain ⟨a, b⟩ := List.mem_filter.1 hi
      have := h i a
      simp only [Bool.not_eq_true', beq_eq_false_iff_ne] at b
      omega) (fun s hs => by
      refine Nat.le_trans ?_ (g s (by omega))
      exact (List.Sublist.filter _ List.filter_sublist).length_le)
    have h2 := g N (Nat.lt_succ_self N)
    have h3 := split_len (fun i => f i == N) L
    rw [Nat.succ_mul]
    omega
theorem sum_many {K : Nat} {g : Nat → Nat} {D : List Nat} (hd : D.Nodup) (h : ∀ j ∈ D, j < K ∧ 0 < g j) : D.length ≤ ((List.range K).map g).sum := by
  induction K generalizing D with
  | zero =>
    cases D with
    | nil => exact Nat.zero_le _
    | cons a D => exact absurd (h a (List.mem_cons_self ..)).1 (Nat.not_lt_zero _)
  | succ K ih =>
    rw [List.range_succ, List.map_append, List.sum_append]
    have h1 := ih (D := D.filter fun j => j != K) (hd.filter _) (fun j hj => by
      obtain ⟨a, b⟩ := List.mem_filter.1 hj
      have := h j a
      simp only [bne_iff_ne, ne_eq] at b
      exact ⟨by omega, this.2⟩)
    by_cases hk : K ∈ D
    · have h2 : D.length ≤ (D.filter fun j => j != K).length + 1 := by
        have h3 := one_at_most (K := K) (hd.filter fun j => j == K) (fun j hj => by simpa using (List.mem_filter.1 hj).2)
        have h4 := split_len (fun j => j == K) D
        have h5 : (D.filter fun j => !(j == K)) = D.filter fun j => j != K := rfl
        rw [h5] at h4
        omega
      have := (h K hk).2
      simp only [List.map_cons, List.map_nil, List.sum_cons, List.sum_nil]
      omega
    · have h2 : D.filter (fun j => j != K) = D := List.filter_eq_self.2 fun j hj => by simp only [bne_iff_ne, ne_eq]; exact fun e => hk (e ▸ hj)
      rw [h2] at h1
      omega
theorem short_many {l : List St} (hto : ∀ q, q < l.length → ∀ a ∈ (el l q).2, ∃ t : Nat, a.2.2.2 = (t : Int) ∧ t < l.length) {n q c k : Nat} (hq : q < l.length) (hk : l.length * (n + 1) ≤ k) (h : 0 < eN l k q c) : ∃ D : List Nat, D.Nodup ∧ n < D.length ∧ ∀ j ∈ D, j < k ∧ 0 < eN l j q c := by
  obtain ⟨p, d, hr, hp, hf, hc⟩ := (eN_pos hto hq).1 h
  obtain ⟨f, g, f0, fk, gk, hparts, hmono⟩ := hr.parts
  have hE : ∀ k w j, ArcE l k w j → j < l.length := fun k w j ⟨a, ha, e1, _⟩ => by
    by_cases hk : k < l.length
    · obtain ⟨t, e2, e3⟩ := hto k hk a ha
      omega
    · rw [show el l k = default by simp [el, List.getElem?_eq_none (Nat.le_of_not_lt hk)]] at ha
      cases ha
  have hlt : ∀ {n k c : Nat}, Run (ArcE l) q n k c → k < l.length := fun h => by
    cases h with
    | nil => exact hq
    | step h e => exact hE _ _ _ e
  have hfl : ∀ i, i ≤ k → f i < l.length := fun i hi => hlt (hparts i hi).1
  -- some state is met often
  obtain ⟨s, hs⟩ : ∃ s, n + 1 < ((List.range (l.length * (n + 1) + 1)).filter fun i => f i == s).length := by
    refine Classical.byContradiction fun hn => ?_
    have := pigeonM (f := f) (m := n + 1) l.length (List.range (l.length * (n + 1) + 1)) (fun i hi => hfl i (by have := List.mem_range.1 hi; omega)) (fun s _ => by
      rcases Nat.lt_or_ge (n + 1) ((List.range (l.length * (n + 1) + 1)).filter fun i => f i == s).length with x | x
      · exact absurd ⟨s, x⟩ hn
      · exact x)
    rw [List.length_range] at this
    omega
  have hall : ∀ i ∈ (List.range (l.length * (n + 1) + 1)).filter (fun i => f i == s), f i = s ∧ i ≤ k := fun i hi => by
    obtain ⟨a, b⟩ := List.mem_filter.1 hi
    have := List.mem_range.1 a
    exact ⟨by simpa using b, by omega⟩
  have hpw : ((List.range (l.length * (n + 1) + 1)).filter fun i => f i == s).Pairwise (· < ·) := List.Pairwise.filter _ List.pairwise_lt_range
  generalize (List.range (l.length * (n + 1) + 1)).filter (fun i => f i == s) = P at *
  match P, hs, hall, hpw with
  | [], hs, _, _ => cases hs
  | i0 :: P, hs, hall, hpw =>
    rw [List.pairwise_cons] at hpw
    refine ⟨P.map fun i => k - (i - i0), ?_, by simpa using hs, fun j hj => ?_⟩
    · rw [List.nodup_iff_pairwise_ne, List.pairwise_map]
      refine hpw.2.imp_of_mem fun {a b} ha hb hab => ?_
      have h1 := (hall a (List.mem_cons_of_mem _ ha)).2
      have h2 := (hall b (List.mem_cons_of_mem _ hb)).2
      have h3 := hpw.1 a ha
      have h4 := hpw.1 b hb
      omega
    · obtain ⟨i, hi, rfl⟩ := List.mem_map.1 hj
      have h1 := hall i (List.mem_cons_of_mem _ hi)
      have h2 := hall i0 (List.mem_cons_self ..)
      have h3 := hpw.1 i hi
      refine ⟨by omega, (eN_pos hto hq).2 ?_⟩
      obtain ⟨r1, _⟩ := hparts i0 h2.2
      obtain ⟨_, d1, r2, e1⟩ := hparts i h1.2
      have r3 : Run (ArcE l) q (i0 + (k - i)) p (g i0 + d1) := by
        refine Run.trans (k := f i0) r1 ?_
        rw [h2.1, ← h1.1]
        rw [fk] at *
        exact r2
      have h5 := hmono i0 i (by omega) h1.2
      exact ⟨p, g i0 + d1, by rw [show k - (i - i0) = i0 + (k - i) by omega]; exact r3, hp, hf, by omega⟩
theorem sN_stable {l : List St} (hto : ∀ q, q < l.length → ∀ a ∈ (el l q).2, ∃ t : Nat, a.2.2.2 = (t : Int) ∧ t < l.length) {n q c : Nat} (hq : q < l.length) {K k : Nat} (hK : l.length * (n + 1) ≤ K) (hk : K ≤ k) : min n (sN l k q c) = min n (sN l K q c) := by
  induction hk with
  | refl => rfl
  | @step k hk ih =>
    rw [sN_succ]
    by_cases h0 : 0 < eN l k q c
    · obtain ⟨D, h1, h2, h3⟩ := short_many hto hq (Nat.le_trans hK hk) h0
      have h4 : D.length ≤ sN l k q c := sum_many h1 h3
      rw [← ih]
      omega
    · rw [show eN l k q c = 0 by omega, Nat.add_zero, ih]
end Go.Proofs.Ytfpibdaedfilaaa.Pl
