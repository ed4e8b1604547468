/- A mark put to others, unless there is one of its state that is as good. -/
import Derived.Test.YtkeeiihaijhdoaaDaf
namespace Go.Proofs.Ytkeeiihaijhdoaa.Sm
open Go.ChangeShapes Go.WideShapes Go.ChangeAt Go.RowKit Go.Maps
open Go.Proofs.Ytkeeiihaijhdoaa.Pl Go.Proofs.Ytkeeiihaijhdoaa.Wt
set_option linter.unusedVariables false
set_option linter.unusedSimpArgs false
def addS (ks : List Int) (q : Int) : List Int := if q ∈ ks then ks else ks ++ [q]
theorem putT_none {T : Tbl} {q : Int} {k : Ky} (h : T q = none) : putT T q k = setT T q k := by
 funext p; unfold putT setT; rw [h]; rfl
theorem putT_bet {T : Tbl} {q : Int} {k b : Ky} (h : T q = some b) (hb : betB k b = true) : putT T q k = setT T q k := by
 funext p; unfold putT setT; rw [h]; simp [minO, hb]
theorem putT_not {T : Tbl} {q : Int} {k b : Ky} (h : T q = some b) (hb : betB k b = false) : putT T q k = T := by
 funext p; unfold putT; rw [h]
 by_cases e : p = q
 ·subst e; simp [minO, hb, h]
 ·rw [if_neg e]
set_option maxRecDepth 100000 in
set_option maxHeartbeats 1600000 in
theorem put_any (m : Nat) (v : Value) (k : Mk) (T : Tbl) (ks : List Int) (w : World) (hM : MpK w m T ks) (hv : MkIs w v k) (hq : wfI k.1) (hl : ks.length < 1000000) (hs : k.2.2.length ≤ 1000000) :
  Calls Try.prog 51 #[.map (some m), v] w fun e w' => e = .returned (.tuple #[]) ∧ MpK w' m (putT T k.1 k.2) (addS ks k.1) ∧ w.grownBy w' (some m) := by
 have HV := hidP hv
 have HM := hidP hM
 obtain ⟨q, x, l⟩ := k
 obtain ⟨vo, rfl, hn⟩ := hv
 simp only at hn hq hs ⊢
 obtain ⟨al, cl, rfl⟩ := Row.sl hn
 clear hn hM
 have hnot : ∀ (x : Bool) (w : World), (Op.unary .not (.bool x)).run Try.prog w = .ok (.bool (!x)) w := fun _ _ => rfl
 have HU : Hid (Below w.heap.size w (w.alloc (.cells #[.int .i64 q, .int .i64 x, .slice al l.length cl] 67))) := by show Below _ _ _; go_grown
 have HMU := hidP (HM.out.below HU.out)
 rcases hT : T q with _ | ⟨c, o⟩
 ·have hlk := (HMU.out.lookS hq).2 hT
  have HU2 : Hid (Below w.heap.size w ((w.alloc (.cells #[.int .i64 q, .int .i64 x, .slice al l.length cl] 67)).alloc (.cells #[.int .i64 0, .int .i64 0, .slice none 0 0] 67))) := by show Below _ _ _; go_grown
  obtain ⟨w4, hup, hm4, hg4⟩ := (HM.out.below HU2.out).put hq (HV.out.later HU2.out (Nat.le_refl _)) hl
  have HM4 : Hid (MpK w4 m (putT T q (x, l)) (addS ks q)) := by show MpK _ _ _ _; rw [putT_none hT]; exact hm4
  have HG4 : Hid (w.grownBy w4 (some m)) := gTrans (gNew HU2.out) hg4
  clear hm4 hg4 hT
  go_enter Try.func51, Try.ntmps51
  go_wp2
  exact bodyPost_end (v := .tuple #[]) (by simp [results, Try.results51, go_sem, *]) rfl ⟨rfl, HM4.out, HG4.out⟩
 ·obtain ⟨ao, co, hlk, hno⟩ := (HMU.out.lookS hq).1 _ hT
  simp only at hlk hno
  have HU2 : Hid (Below w.heap.size w ((w.alloc (.cells #[.int .i64 q, .int .i64 x, .slice al l.length cl] 67)).alloc (.cells #[.int .i64 q, .int .i64 c, .slice ao o.length co] 67))) := by show Below _ _ _; go_grown
  have HNO : Hid (Nums ((w.alloc (.cells #[.int .i64 q, .int .i64 x, .slice al l.length cl] 67)).alloc (.cells #[.int .i64 q, .int .i64 c, .slice ao o.length co] 67)) (.slice ao o.length co) o) := hno.later ((Below.refl _ _).alloc (Nat.le_refl _) _) (Nat.le_refl _)
  clear hno
  by_cases hb : betB (x, l) (c, o) = true
  ·have HBT := hidP hb
   have HPT := hidP (putT_bet hT hb)
   clear hT hb
   go_enter Try.func51, Try.ntmps51
   go_wp2_with (first
    | (go_at_call 62; (with_reducible refine (isBetter_any _ _ (q, x, l) (q, c, o) _ (HV.out.later HU2.out (Nat.le_refl _)) (mkIs_of HNO.out) (by simp only; omega)).mono ?_); rintro e w3 ⟨rfl, hb3⟩; rw [HBT.out]; obtain ⟨s3, b1, b2, hb4⟩ := boxedTwo (hb3.mono (Nat.le_refl _)) (by simp); have e0 := b1.cell 0 (v := .int .i64 q) rfl; have e1 := b1.cell 1 (v := .int .i64 x) rfl; have e2 := b1.cell 2 (v := .slice al l.length cl) rfl; obtain ⟨w4, hup, hm4, hg4⟩ := (HM.out.below hb4).put hq (HV.out.later hb4 (Nat.le_refl _)) hl; have HM4 : Hid (MpK w4 m (putT T q (x, l)) (addS ks q)) := (by show MpK _ _ _ _; rw [HPT.out]; exact hm4); have HG4 : Hid (w.grownBy w4 (some m)) := gTrans (gNew hb4) hg4; clear hm4 hg4 b1 b2 hb4 hb3))
   exact bodyPost_end (v := .tuple #[]) (by simp [results, Try.results51, go_sem, *]) rfl ⟨rfl, HM4.out, HG4.out⟩
  ·have HBT : Hid (betB (x, l) (c, o) = false) := by show _ = _; simpa using hb
   have HPT := hidP (putT_not hT HBT.out)
   have hqk : q ∈ ks := by
    obtain ⟨D, h1, h2, h3, h4, _⟩ := HM.out
    exact (h4 q).1 (by rw [hT]; simp)
   have HKS : Hid (addS ks q = ks) := if_pos hqk
   clear hT hb
   go_enter Try.func51, Try.ntmps51
   go_wp2_with (first
    | (go_at_call 62; (with_reducible refine (isBetter_any _ _ (q, x, l) (q, c, o) _ (HV.out.later HU2.out (Nat.le_refl _)) (mkIs_of HNO.out) (by simp only; omega)).mono ?_); rintro e w3 ⟨rfl, hb3⟩; rw [HBT.out]; have HB3 : Hid (Below w.heap.size w w3) := HU2.out.trans (hb3.mono HU2.out.size); clear hb3))
   exact bodyPost_end (v := .tuple #[]) (by simp [results, Try.results51, go_sem, *]) rfl ⟨rfl, by rw [HPT.out, HKS.out]; exact HM.out.below HB3.out, gNew HB3.out⟩
abbrev mvV (c : Mv) : Value := .agg #[.int .i64 c.1, .int .i64 c.2.1, .slice c.2.2.1 c.2.2.2.1 c.2.2.2.2]
theorem keyInvI : ∀ key kl, keyOf Try.prog 3 key = some kl → ∃ x : Int, key = .int .i64 x := fun key kl h => by
 obtain ⟨x, hx, _⟩ := Maps.keyOf_int_inv Try.underlying3 h
 exact ⟨x, hx⟩
theorem mvInv : ∀ (v : Value) (y : DataW Value × List MemPlace), rdM v = some y → ∃ c : Mv, v = mvV c := fun v y h => by
 obtain ⟨x, hx, _⟩ := rdM_inv h
 exact ⟨x, hx⟩
theorem entry_of {w : World} {D : DataW Value} {T : Tbl} (h6 : ∀ q, wfI q → (∀ k, T q = some k → Maps.has D (.int .i64 q) = true ∧ ∃ x : Mv, (∀ zd, D.atKey (.int .i64 q) zd = .held (mkMv x)) ∧ MkIs w (mkMv x) (q, k)) ∧ (T q = none → Maps.has D (.int .i64 q) = false))
  {x : Int} {c : Mv} {kl : Lit} {y : DataW Value × List MemPlace} (hkey : keyOf Try.prog 3 (.int .i64 x) = some kl) (hv : rdM (mvV c) = some y) (hat : ∀ zd, D.atKey kl zd = y.1) :
  kl = .int .i64 x ∧ wfI x ∧ ∃ k : Ky, T x = some k ∧ c.1 = x ∧ c.2.1 = k.1 ∧ c.2.2.2.1 = k.2.length ∧ Nums w (.slice c.2.2.1 k.2.length c.2.2.2.2) k.2 := by
 obtain ⟨x', e1, rfl, hw⟩ := Maps.keyOf_int_inv Try.underlying3 hkey
 injection e1 with _ e2
 subst e2
 refine ⟨rfl, hw, ?_⟩
 have hhas := has_true_of_atKey hat
 rcases hT : T x with _ | k
 ·rw [(h6 x hw).2 hT] at hhas; cases hhas
 ·obtain ⟨_, x2, g2, g3⟩ := (h6 x hw).1 k hT
  obtain ⟨a, cp, g4, g5⟩ := g3.mv
  obtain ⟨c2, _, rfl⟩ := rdM_inv hv
  have g6 := hat (.lit (.int .i64 0))
  rw [g2] at g6
  simp only [DataW.held.injEq] at g6
  rw [g4] at g6
  refine ⟨k, rfl, ?_⟩
  obtain ⟨c0, c1, c3, c4, c5⟩ := c
  simp only [mkMv, mvV, Value.agg.injEq, Array.mk.injEq, List.cons.injEq, Value.int.injEq, true_and, and_true, Value.slice.injEq] at g6
  obtain ⟨r1, r2, r3, r4, r5⟩ := g6
  subst r3 r5
  exact ⟨r1.symm, r2.symm, r4.symm, g5⟩
set_option maxRecDepth 100000 in
set_option maxHeartbeats 1600000 in
theorem haveOver_any (m : Nat) (T : Tbl) (ks : List Int) (w : World) (hM : MpK w m T ks) :
  Calls Try.prog 29 #[.map (some m)] w fun e w' => ∃ b : Bool, e = .returned (.bool b) ∧ (b = true ↔ ∃ q k, T q = some k ∧ 1000000000 < k.1) ∧ Below w.heap.size w w' := by
 obtain ⟨D, h1, h2, h3, h4, h5, h6⟩ := hM
 have H5 := hidP h5
 have H6 : Hid (∀ q, wfI q → (∀ k, T q = some k → Maps.has D (.int .i64 q) = true ∧ ∃ x : Mv, (∀ zd, D.atKey (.int .i64 q) zd = .held (mkMv x)) ∧ MkIs w (mkMv x) (q, k)) ∧ (T q = none → Maps.has D (.int .i64 q) = false)) := h6
 have HWF : Hid (∀ q k, T q = some k → wfI q) := fun q k h => h5 q ((h4 q).1 (by rw [h]; simp))
 clear h2 h3 h4 h5 h6
 go_enter Try.func29, Try.ntmps29
 go_wp2_with (first
  | (at_range; refine wpList_range_own _ rfl _ 61 rfl 3 67 lawI Try.underlying61 _ m ks.length D rfl h1 ?_; intro w0 hrg0 hg0 hs0)
  | go_in)
 go_frame
 go_loopw [4] (fun _ wr => ∃ (left : Lit → Bool) (cnt : Nat), wr.ranges Try.prog 3 rdM m w.heap.size ks.length D left cnt ∧ Hid (∀ q k, T q = some k → left (.int .i64 q) = false → k.1 ≤ 1000000000) ∧ Hid (Below w.heap.size w wr)) (fun _ wr => wr.rangeLeft m w.heap.size)
 case atStart => exact ⟨_, _, hrg0, (by intro q k hT hl; rw [((H6.out q (HWF.out q k hT)).1 k hT).1] at hl; cases hl), gBelow hg0 (by simp) (Nat.le_refl _)⟩
 case round =>
  clear hrg0 hg0 hs0
  obtain ⟨left, cnt, hrg, hpre, hb⟩ := hrel
  go_wp2_with (first
   | (at_next; refine wpList_next_ranges _ rfl _ rfl 3 lawI rdM (Value.int .i64) mvV keyInvI mvInv m w.heap.size ks.length D _ _ rfl hrg ?_ ?_)
   | go_in)
  ·intro _ hl0
   go_wp2
   go_ret
   exact ⟨_, rfl, by simp only [Bool.false_eq_true, false_iff]; rintro ⟨q, k, hT, hk⟩; exact absurd (hpre.out q k hT (hl0 _)) (by omega), hb.out⟩
  ·intro x c0 c1 c2 c3 c4 kl y1 y2 w1 cnt1 hkey hlk hv hat hrg1 hlt hg1 hs1 hen
   obtain ⟨rfl, hwx, k, hT, e1, e2, e3, hno⟩ := entry_of H6.out hkey hv hat
   try simp only at e1 e2 e3 hno
   subst e1 e2 e3
   have HB1 : Hid (Below w.heap.size w w1) := hb.out.trans ((gBelow hg1 (fun k hk => by cases hk; exact Nat.le_refl _) hb.out.size))
   have HT := hidP hT
   clear hno hkey hv hat hT
   try simp only at hen
   by_cases hov : 1000000000 < k.1
   ·go_wp2
    go_ret
    exact ⟨_, rfl, by simp only [true_iff]; exact ⟨c0, k, HT.out, hov⟩, by have h9 := HB1.out; have h8 := HB1.out.size; go_grown⟩
   ·go_wp2
    go_roundw
    case rel => exact ⟨_, cnt1, hrg1.alloc _, (by
     intro q k' hT' hl
     by_cases e : q = c0
     ·subst e
      rw [HT.out, Option.some.injEq] at hT'
      rw [← hT']; omega
     ·refine hpre.out q k' hT' ?_
      have hns : (Lit.int .i64 q).sameKey (.int .i64 c0) = false := by simp [Lit.sameKey, e]
      simpa [hns] using hl), by show Below _ _ _; have h9 := HB1.out; have h8 := HB1.out.size; go_grown⟩
    case measure => rw [(hrg1.alloc _).left_eq, hrg.left_eq]; exact hlt
theorem ownsKeep {w w' : World} {m n : Nat} {D : DataW Value} (h : w.ownsMap Try.prog 3 rdM m n D) (e : w'.heap[m]? = w.heap[m]?) : w'.ownsMap Try.prog 3 rdM m n D := by
 obtain ⟨es, c, hb, h0⟩ := h
 exact ⟨es, c, e.trans hb, h0⟩
theorem left_not {left : Lit → Bool} {p q : Int} (e : p ≠ q) (h : (left (.int .i64 p) && !(Lit.int .i64 p).sameKey (.int .i64 q)) = false) : left (.int .i64 p) = false := by
 have hns : (Lit.int .i64 p).sameKey (.int .i64 q) = false := by simp [Lit.sameKey, e]
 simpa [hns] using h
set_option maxRecDepth 100000 in
set_option maxHeartbeats 4000000 in
theorem take_any (m : Nat) (T : Tbl) (ks : List Int) (w : World) (hM : MpK w m T ks) (hne : ks ≠ []) (hsz : ∀ q k, T q = some k → k.2.length ≤ 1000000) :
  Calls Try.prog 70 #[.map (some m)] w fun e w' => ∃ (q : Int) (x : Ky) (vo : Value), e = .returned (.agg #[.int .i64 q, .int .i64 x.1, vo]) ∧ Nums w' vo x.2 ∧ T q = some x ∧ (∀ p y, T p = some y → leK x y) ∧ MpK w' m (delT T q) (ks.erase q) ∧ w.grownBy w' (some m) := by
 have HM := hidP hM
 have hmlt := hM.lt
 obtain ⟨D, h1, h2, h3, h4, h5, h6⟩ := hM
 have H4 := hidP h4
 have HOW := hidP h1
 have H6 : Hid (∀ q, wfI q → (∀ k, T q = some k → Maps.has D (.int .i64 q) = true ∧ ∃ x : Mv, (∀ zd, D.atKey (.int .i64 q) zd = .held (mkMv x)) ∧ MkIs w (mkMv x) (q, k)) ∧ (T q = none → Maps.has D (.int .i64 q) = false)) := h6
 have HWF : Hid (∀ q k, T q = some k → wfI q) := fun q k h => h5 q ((h4 q).1 (by rw [h]; simp))
 have HNE : Hid (∃ q k, T q = some k) := by
  obtain ⟨q, hq⟩ := List.exists_mem_of_ne_nil _ hne
  obtain ⟨k, hk⟩ := Option.ne_none_iff_exists'.1 ((h4 q).2 hq)
  exact ⟨q, k, hk⟩
 have HSZ := hidP hsz
 clear h2 h3 h4 h5 h6 hne hsz
 have hnot : ∀ (x : Bool) (w : World), (Op.unary .not (.bool x)).run Try.prog w = .ok (.bool (!x)) w := fun _ _ => rfl
 have HU : Hid (Below w.heap.size w ((w.alloc (.cells #[.int .i64 0, .int .i64 0, .slice none 0 0] 67)).alloc (.cells #[.int .i64 0, .int .i64 0, .slice none 0 0] 67))) := by show Below _ _ _; go_grown
 have h1W : ((w.alloc (.cells #[.int .i64 0, .int .i64 0, .slice none 0 0] 67)).alloc (.cells #[.int .i64 0, .int .i64 0, .slice none 0 0] 67)).ownsMap Try.prog 3 rdM m ks.length D := ownsKeep h1 (HU.out.block m hmlt)
 clear h1
 go_enter Try.func70, Try.ntmps70
 go_wp2_with (first
  | (at_range; refine wpList_range_own _ rfl _ 61 rfl 3 67 lawI Try.underlying61 _ m ks.length D rfl h1W ?_; intro w0 hrg0 hg0 hs0)
  | go_in)
 go_frame
 have hR0 : ((w.alloc (.cells #[.int .i64 0, .int .i64 0, .slice none 0 0] 67)).alloc (.cells #[.int .i64 0, .int .i64 0, .slice none 0 0] 67)).heap.size = w.heap.size + 2 := by simp
 rw [hR0] at hrg0
 have HRG0 := hidP hrg0
 have HB0 : Hid (Below w.heap.size w w0) := HU.out.trans ((gBelow hg0 (by simp) (Nat.le_refl _)).mono (by simp; omega))
 have BT2 : Hid (Blk w0 w.heap.size #[.int .i64 0, .int .i64 0, .slice none 0 0] 67) := ((Blk.made w _ _).alloc _).grown hg0 (by simp)
 have BT3 : Hid (Blk w0 (w.heap.size + 1) #[.int .i64 0, .int .i64 0, .slice none 0 0] 67) := by
  have h := Blk.made (w.alloc (.cells #[.int .i64 0, .int .i64 0, .slice none 0 0] 67)) #[.int .i64 0, .int .i64 0, .slice none 0 0] 67
  simp only [World.size_alloc] at h
  exact h.grown hg0 (by simp)
 have hs00 : w.heap.size + 3 = w0.heap.size := by rw [hs0, hR0]
 rw [hR0]
 clear h1W hrg0 hg0 hs0 hR0
 go_loopw [4] (fun s4 wr => ∃ (left : Lit → Bool) (cnt : Nat) (fd : Bool) (q c : Int) (vo : Value) (o : List Int), wr.ranges Try.prog 3 rdM m (w.heap.size + 2) ks.length D left cnt ∧ s4 = .bool fd ∧ Hid (Blk wr (w.heap.size + 1) #[.int .i64 q, .int .i64 c, vo] 67) ∧ Hid (Blk wr w.heap.size #[.int .i64 0, .int .i64 0, .slice none 0 0] 67) ∧ Hid (fd = true → T q = some (c, o)) ∧ Hid (Nums w vo o) ∧ o.length ≤ 1000000 ∧ Hid (∀ p y, T p = some y → left (.int .i64 p) = false → fd = true ∧ leK (c, o) y) ∧ w.heap.size + 3 ≤ wr.heap.size ∧ Hid (Below w.heap.size w wr)) (fun _ wr => wr.rangeLeft m (w.heap.size + 2))
 case atStart => exact ⟨_, _, false, 0, 0, .slice none 0 0, [], HRG0.out, rfl, BT3, BT2, (by intro h; cases h), .inl ⟨rfl, rfl⟩, by simp, (by intro p y hT hl; rw [((H6.out p (HWF.out p y hT)).1 y hT).1] at hl; cases hl), by omega, HB0⟩
 case round =>
  clear HRG0 HB0 BT2 BT3 hs00
  obtain ⟨left, cnt, fd, q, c, vo, o, hrg, rfl, bB, bZ, hfd, hno, ho8, hpre, hs, hb⟩ := hrel
  obtain ⟨avo, cvo, rfl⟩ := Row.sl hno.out
  have d0 := bB.out.cell 0 (v := .int .i64 q) rfl
  have d1 := bB.out.cell 1 (v := .int .i64 c) rfl
  have d2 := bB.out.cell 2 (v := .slice avo o.length cvo) rfl
  have hf0 := bB.out.fz 0
  have hf1 := bB.out.fz 1
  have hf2 := bB.out.fz 2
  have z0 : w.heap.size < wr.heap.size := by omega
  have z1 : w.heap.size + 1 < wr.heap.size := by omega
  go_wp2_with (first
   | (at_next; refine wpList_next_ranges _ rfl _ rfl 3 lawI rdM (Value.int .i64) mvV keyInvI mvInv m (w.heap.size + 2) ks.length D _ _ rfl hrg ?_ ?_)
   | go_in)
  ·intro _ hl0
   have HF : Hid (fd = true ∧ ∀ p y, T p = some y → leK (c, o) y) := by
    obtain ⟨p, y, hp⟩ := HNE.out
    exact ⟨(hpre.out p y hp (hl0 _)).1, fun p y hp => (hpre.out p y hp (hl0 _)).2⟩
   have HTQ : Hid (T q = some (c, o)) := hfd.out HF.out.1
   have HWQ := HWF.out q _ HTQ.out
   have HQK : Hid (q ∈ ks) := (H4.out q).1 (by rw [HTQ.out]; simp)
   have zb0 := bZ.out.cell 0 (v := .int .i64 0) rfl
   clear hpre hfd
   go_wp2_with (first
    | (at_delete; refine wpList_delete_own _ rfl _ _ 61 3 rfl 67 lawI Try.underlying61 rdM m ks.length D rfl hrg.owns _ _ rfl (keyI HWQ) ?_; intro w2 hown2 hturn; have hgt := hturn.grown; have bB2 := hidP (bB.out.grown hgt (by simp; omega)); have bZ2 := hidP (bZ.out.grown hgt (by simp; omega)); have HOW2 := hidP hown2; have HGT := hidP hgt; have x0 := bB2.out.cell 0 (v := .int .i64 q) rfl; have x1 := bB2.out.cell 1 (v := .int .i64 c) rfl; have x2 := bB2.out.cell 2 (v := .slice avo o.length cvo) rfl; have y0 := bZ2.out.cell 0 (v := .int .i64 0) rfl; have y1 := bZ2.out.cell 1 (v := .int .i64 0) rfl; have y2 := bZ2.out.cell 2 (v := .slice none 0 0) rfl; have t0 := bZ2.out.fz 0; have t1 := bZ2.out.fz 1; have t2 := bZ2.out.fz 2; have zz := hgt.size; clear hturn hown2 hgt; go_frame)
    | go_in)
   have HG : Hid (w.grownBy (((w2.setCell ⟨w.heap.size, 0, none⟩ (.int .i64 q)).setCell ⟨w.heap.size, 1, none⟩ (.int .i64 c)).setCell ⟨w.heap.size, 2, none⟩ (.slice avo o.length cvo)) (some m)) := gSetNew (gSetNew (gSetNew (gTrans (gNew hb.out) HGT.out) (Nat.le_refl _) _ _) (Nat.le_refl _) _ _) (Nat.le_refl _) _ _
   have HKP : Hid (Keeps w (((w2.setCell ⟨w.heap.size, 0, none⟩ (.int .i64 q)).setCell ⟨w.heap.size, 1, none⟩ (.int .i64 c)).setCell ⟨w.heap.size, 2, none⟩ (.slice avo o.length cvo))) := HM.out.keeps HG.out
   have HO3 : Hid ((((w2.setCell ⟨w.heap.size, 0, none⟩ (.int .i64 q)).setCell ⟨w.heap.size, 1, none⟩ (.int .i64 c)).setCell ⟨w.heap.size, 2, none⟩ (.slice avo o.length cvo)).ownsMap Try.prog 3 rdM m ks.length (D.del (.int .i64 q))) := ownsKeep (ownsKeep (ownsKeep HOW2.out (Below.heap_setCell _ _ _ m (by show m ≠ w.heap.size; omega))) (Below.heap_setCell _ _ _ m (by show m ≠ w.heap.size; omega))) (Below.heap_setCell _ _ _ m (by show m ≠ w.heap.size; omega))
   exact bodyPost_ret (v := .agg #[.int .i64 q, .int .i64 c, .slice avo o.length cvo]) (by simp [results, Try.results70, go_sem, *]) rfl ⟨q, (c, o), _, rfl, Nums.keeps hno.out HKP.out, HTQ.out, HF.out.2, HM.out.delD HOW.out HKP.out HQK.out HO3.out, HG.out⟩
  ·intro x c0 c1 c2 c3 c4 kl y1 y2 w1 cnt1 hkey hlk hv hat hrg1 hlt hg1 hs1 hen
   obtain ⟨rfl, hwx, k, hT, e1, e2, e3, hno1⟩ := entry_of H6.out hkey hv hat
   try simp only at e1 e2 e3 hno1
   obtain ⟨kc, ko⟩ := k
   try simp only at e1 e2 e3 hno1
   subst e1 e2 e3
   have HB1 : Hid (Below w.heap.size w w1) := hb.out.trans ((gBelow hg1 (fun k hk => by cases hk; omega) hb.out.size))
   have HT := hidP hT
   have HN1 := hidP hno1
   have bB1 := hidP (bB.out.grown hg1 (by first | (simp; done) | (simp; omega)))
   have bZ1 := hidP (bZ.out.grown hg1 (by first | (simp; done) | (simp; omega)))
   have HK8 := HSZ.out _ _ hT
   simp only at HK8
   clear hno1 hkey hv hat hT d0 d1 d2 hf0 hf1 hf2
   try simp only at hen
   have d0 := bB1.out.cell 0 (v := .int .i64 q) rfl
   have d1 := bB1.out.cell 1 (v := .int .i64 c) rfl
   have d2 := bB1.out.cell 2 (v := .slice avo o.length cvo) rfl
   have hf0 := bB1.out.fz 0
   have hf1 := bB1.out.fz 1
   have hf2 := bB1.out.fz 2
   have z0 : w.heap.size < w1.heap.size := by omega
   have z1 : w.heap.size + 1 < w1.heap.size := by omega
   have z3 : w.heap.size + 3 ≤ w1.heap.size := by omega
   clear hs1
   have HW3 : Hid (Below w1.heap.size w1 (w1.alloc (.cells #[.int .i64 c0, .int .i64 c1, .slice c2 ko.length c4] 67))) := by show Below _ _ _; go_grown
   have HW3' : Hid (Below w.heap.size w (w1.alloc (.cells #[.int .i64 c0, .int .i64 c1, .slice c2 ko.length c4] 67))) := HB1.out.trans (HW3.out.mono HB1.out.size)
   have BK3 : Hid (Blk (w1.alloc (.cells #[.int .i64 c0, .int .i64 c1, .slice c2 ko.length c4] 67)) w1.heap.size #[.int .i64 c0, .int .i64 c1, .slice c2 ko.length c4] 67) := Blk.made w1 _ _
   rcases fd with _ | _
   ·go_wp2
    go_roundw
    case rel => exact ⟨_, cnt1, true, c0, c1, _, ko, (((hrg1.kept (gSet _ _ _ _) (by first | (simp; done) | (simp; omega)) (by first | (simp; done) | (simp; omega))).kept (gSet _ _ _ _) (by first | (simp; done) | (simp; omega)) (by first | (simp; done) | (simp; omega))).kept (gSet _ _ _ _) (by first | (simp; done) | (simp; omega)) (by first | (simp; done) | (simp; omega))).alloc _, rfl, (((bB1.out.set 0 _).set 1 _).set 2 _).alloc _, (((bZ1.out.setO _ _ (by first | (simp; done) | (simp; omega))).setO _ _ (by first | (simp; done) | (simp; omega))).setO _ _ (by first | (simp; done) | (simp; omega))).alloc _, (fun _ => HT.out), HN1.out, HK8, (by
      intro p y hTp hl
      by_cases e : p = c0
      ·subst e
       rw [HT.out, Option.some.injEq] at hTp
       rw [← hTp]
       exact ⟨rfl, leK.refl _⟩
      ·exact ⟨rfl, absurd (hpre.out p y hTp (left_not e hl)).1 (by simp)⟩), by simp; omega, by show Below _ _ _; have h9 := HB1.out; go_grown⟩
    case measure => rw [((((hrg1.kept (gSet _ _ _ _) (by first | (simp; done) | (simp; omega)) (by first | (simp; done) | (simp; omega))).kept (gSet _ _ _ _) (by first | (simp; done) | (simp; omega)) (by first | (simp; done) | (simp; omega))).kept (gSet _ _ _ _) (by first | (simp; done) | (simp; omega)) (by first | (simp; done) | (simp; omega))).alloc _).left_eq, hrg.left_eq]; exact hlt
   ·have HTQ : Hid (T q = some (c, o)) := hfd.out rfl
    by_cases hb1 : betB (c1, ko) (c, o) = true
    ·have HB1T := hidP hb1
     clear hb1
     go_wp2_with (first
      | (go_at_call 62; (with_reducible refine (isBetter_any _ _ (c0, c1, ko) (q, c, o) _ (mkIs_of (HN1.out.later HW3'.out (Nat.le_refl _))) (mkIs_of (hno.out.later HW3'.out (Nat.le_refl _))) (by simp only; omega)).mono ?_); rintro e w4 ⟨rfl, hb4⟩; rw [HB1T.out]; have HB4 : Hid (Below w1.heap.size w1 w4) := HW3.out.trans (hb4.mono HW3.out.size); have BK4 := hidP (BK3.out.below hb4 BK3.out.lt); have bB4 := hidP (bB1.out.below HB4.out bB1.out.lt); have q0 := BK4.out.cell 0 (v := .int .i64 c0) rfl; have q1 := BK4.out.cell 1 (v := .int .i64 c1) rfl; have q2 := BK4.out.cell 2 (v := .slice c2 ko.length c4) rfl; have u0 := bB4.out.cell 0 (v := .int .i64 q) rfl; have u1 := bB4.out.cell 1 (v := .int .i64 c) rfl; have u2 := bB4.out.cell 2 (v := .slice avo o.length cvo) rfl; have t0 := bB4.out.fz 0; have t1 := bB4.out.fz 1; have t2 := bB4.out.fz 2; have zz := HB4.out.size; clear hb4))
     go_roundw
     case rel => exact ⟨_, cnt1, true, c0, c1, _, ko, (((hrg1.kept (gNew (r := none) HB4.out) (by simp) (by simp)).kept (gSet _ _ _ _) (by first | (simp; done) | (simp; omega)) (by first | (simp; done) | (simp; omega))).kept (gSet _ _ _ _) (by first | (simp; done) | (simp; omega)) (by first | (simp; done) | (simp; omega))).kept (gSet _ _ _ _) (by first | (simp; done) | (simp; omega)) (by first | (simp; done) | (simp; omega)), rfl, ((bB4.out.set 0 _).set 1 _).set 2 _, (((bZ1.out.below HB4.out bZ1.out.lt).setO _ _ (by first | (simp; done) | (simp; omega))).setO _ _ (by first | (simp; done) | (simp; omega))).setO _ _ (by first | (simp; done) | (simp; omega)), (fun _ => HT.out), HN1.out, HK8, (by
       intro p y hTp hl
       by_cases e : p = c0
       ·subst e
        rw [HT.out, Option.some.injEq] at hTp
        rw [← hTp]
        exact ⟨rfl, leK.refl _⟩
       ·exact ⟨rfl, (betB_le HB1T.out).trans (hpre.out p y hTp (left_not e hl)).2⟩), by simp; omega, by show Below _ _ _; have h9 := HB1.out.trans (HB4.out.mono HB1.out.size); go_grown⟩
     case measure => rw [((((hrg1.kept (gNew (r := none) HB4.out) (by simp) (by simp)).kept (gSet _ _ _ _) (by first | (simp; done) | (simp; omega)) (by first | (simp; done) | (simp; omega))).kept (gSet _ _ _ _) (by first | (simp; done) | (simp; omega)) (by first | (simp; done) | (simp; omega))).kept (gSet _ _ _ _) (by first | (simp; done) | (simp; omega)) (by first | (simp; done) | (simp; omega))).left_eq, hrg.left_eq]; exact hlt
    ·have HB1T : Hid (betB (c1, ko) (c, o) = false) := by show _ = _; simpa using hb1
     clear hb1
     by_cases hb2 : betB (c, o) (c1, ko) = true
     ·have HB2T := hidP hb2
      clear hb2
      go_wp2_with (first
       | (go_at_call 62; (with_reducible refine (isBetter_any _ _ (c0, c1, ko) (q, c, o) _ (mkIs_of (HN1.out.later HW3'.out (Nat.le_refl _))) (mkIs_of (hno.out.later HW3'.out (Nat.le_refl _))) (by simp only; omega)).mono ?_); rintro e w4 ⟨rfl, hb4⟩; rw [HB1T.out]; have HB4 : Hid (Below w1.heap.size w1 w4) := HW3.out.trans (hb4.mono HW3.out.size); have BK4 := hidP (BK3.out.below hb4 BK3.out.lt); have bB4 := hidP (bB1.out.below HB4.out bB1.out.lt); have q0 := BK4.out.cell 0 (v := .int .i64 c0) rfl; have q1 := BK4.out.cell 1 (v := .int .i64 c1) rfl; have q2 := BK4.out.cell 2 (v := .slice c2 ko.length c4) rfl; have u0 := bB4.out.cell 0 (v := .int .i64 q) rfl; have u1 := bB4.out.cell 1 (v := .int .i64 c) rfl; have u2 := bB4.out.cell 2 (v := .slice avo o.length cvo) rfl; have t0 := bB4.out.fz 0; have t1 := bB4.out.fz 1; have t2 := bB4.out.fz 2; have zz := HB4.out.size; clear hb4)
       | (go_at_call 62; (with_reducible refine (isBetter_any _ _ (q, c, o) (c0, c1, ko) _ (mkIs_of (hno.out.later (HB1.out.trans (HB4.out.mono HB1.out.size)) (Nat.le_refl _))) (mkIs_of (HN1.out.later (HB1.out.trans (HB4.out.mono HB1.out.size)) (Nat.le_refl _))) (by simp only; omega)).mono ?_); rintro e w5 ⟨rfl, hb5⟩; rw [HB2T.out]; have HB5 : Hid (Below w1.heap.size w1 w5) := HB4.out.trans (hb5.mono HB4.out.size); have BK5 := hidP (BK4.out.below hb5 BK4.out.lt); have bB5 := hidP (bB1.out.below HB5.out bB1.out.lt); have qq0 := BK5.out.cell 0 (v := .int .i64 c0) rfl; have qq1 := BK5.out.cell 1 (v := .int .i64 c1) rfl; have qq2 := BK5.out.cell 2 (v := .slice c2 ko.length c4) rfl; have uu0 := bB5.out.cell 0 (v := .int .i64 q) rfl; have uu1 := bB5.out.cell 1 (v := .int .i64 c) rfl; have uu2 := bB5.out.cell 2 (v := .slice avo o.length cvo) rfl; have tt0 := bB5.out.fz 0; have tt1 := bB5.out.fz 1; have tt2 := bB5.out.fz 2; have zz5 := HB5.out.size; clear hb5))
      go_roundw
      case rel => exact ⟨_, cnt1, true, q, c, _, o, hrg1.kept (gNew (r := none) HB5.out) (by simp) (by simp), rfl, bB5, bZ1.out.below HB5.out bZ1.out.lt, (fun _ => HTQ.out), hno, ho8, (by
        intro p y hTp hl
        by_cases e : p = c0
        ·subst e
         rw [HT.out, Option.some.injEq] at hTp
         rw [← hTp]
         exact ⟨rfl, betB_le HB2T.out⟩
        ·exact ⟨rfl, (hpre.out p y hTp (left_not e hl)).2⟩), by omega, HB1.out.trans (HB5.out.mono HB1.out.size)⟩
      case measure => rw [(hrg1.kept (gNew (r := none) HB5.out) (by simp) (by simp)).left_eq, hrg.left_eq]; exact hlt
     ·have HB2T : Hid (betB (c, o) (c1, ko) = false) := by show _ = _; simpa using hb2
      clear hb2
      by_cases hlt3 : c0 < q
      ·go_wp2_with (first
        | (go_at_call 62; (with_reducible refine (isBetter_any _ _ (c0, c1, ko) (q, c, o) _ (mkIs_of (HN1.out.later HW3'.out (Nat.le_refl _))) (mkIs_of (hno.out.later HW3'.out (Nat.le_refl _))) (by simp only; omega)).mono ?_); rintro e w4 ⟨rfl, hb4⟩; rw [HB1T.out]; have HB4 : Hid (Below w1.heap.size w1 w4) := HW3.out.trans (hb4.mono HW3.out.size); have BK4 := hidP (BK3.out.below hb4 BK3.out.lt); have bB4 := hidP (bB1.out.below HB4.out bB1.out.lt); have q0 := BK4.out.cell 0 (v := .int .i64 c0) rfl; have q1 := BK4.out.cell 1 (v := .int .i64 c1) rfl; have q2 := BK4.out.cell 2 (v := .slice c2 ko.length c4) rfl; have u0 := bB4.out.cell 0 (v := .int .i64 q) rfl; have u1 := bB4.out.cell 1 (v := .int .i64 c) rfl; have u2 := bB4.out.cell 2 (v := .slice avo o.length cvo) rfl; have t0 := bB4.out.fz 0; have t1 := bB4.out.fz 1; have t2 := bB4.out.fz 2; have zz := HB4.out.size; clear hb4)
        | (go_at_call 62; (with_reducible refine (isBetter_any _ _ (q, c, o) (c0, c1, ko) _ (mkIs_of (hno.out.later (HB1.out.trans (HB4.out.mono HB1.out.size)) (Nat.le_refl _))) (mkIs_of (HN1.out.later (HB1.out.trans (HB4.out.mono HB1.out.size)) (Nat.le_refl _))) (by simp only; omega)).mono ?_); rintro e w5 ⟨rfl, hb5⟩; rw [HB2T.out]; have HB5 : Hid (Below w1.heap.size w1 w5) := HB4.out.trans (hb5.mono HB4.out.size); have BK5 := hidP (BK4.out.below hb5 BK4.out.lt); have bB5 := hidP (bB1.out.below HB5.out bB1.out.lt); have qq0 := BK5.out.cell 0 (v := .int .i64 c0) rfl; have qq1 := BK5.out.cell 1 (v := .int .i64 c1) rfl; have qq2 := BK5.out.cell 2 (v := .slice c2 ko.length c4) rfl; have uu0 := bB5.out.cell 0 (v := .int .i64 q) rfl; have uu1 := bB5.out.cell 1 (v := .int .i64 c) rfl; have uu2 := bB5.out.cell 2 (v := .slice avo o.length cvo) rfl; have tt0 := bB5.out.fz 0; have tt1 := bB5.out.fz 1; have tt2 := bB5.out.fz 2; have zz5 := HB5.out.size; clear hb5))
       go_roundw
       case rel => exact ⟨_, cnt1, true, c0, c1, _, ko, (((hrg1.kept (gNew (r := none) HB5.out) (by simp) (by simp)).kept (gSet _ _ _ _) (by first | (simp; done) | (simp; omega)) (by first | (simp; done) | (simp; omega))).kept (gSet _ _ _ _) (by first | (simp; done) | (simp; omega)) (by first | (simp; done) | (simp; omega))).kept (gSet _ _ _ _) (by first | (simp; done) | (simp; omega)) (by first | (simp; done) | (simp; omega)), rfl, ((bB5.out.set 0 _).set 1 _).set 2 _, (((bZ1.out.below HB5.out bZ1.out.lt).setO _ _ (by first | (simp; done) | (simp; omega))).setO _ _ (by first | (simp; done) | (simp; omega))).setO _ _ (by first | (simp; done) | (simp; omega)), (fun _ => HT.out), HN1.out, HK8, (by
         intro p y hTp hl
         by_cases e : p = c0
         ·subst e
          rw [HT.out, Option.some.injEq] at hTp
          rw [← hTp]
          exact ⟨rfl, leK.refl _⟩
         ·exact ⟨rfl, Sm.leK.trans (show leK (c1, ko) (c, o) from HB2T.out) (hpre.out p y hTp (left_not e hl)).2⟩), by simp; omega, by show Below _ _ _; have h9 := HB1.out.trans (HB5.out.mono HB1.out.size); go_grown⟩
       case measure => rw [((((hrg1.kept (gNew (r := none) HB5.out) (by simp) (by simp)).kept (gSet _ _ _ _) (by first | (simp; done) | (simp; omega)) (by first | (simp; done) | (simp; omega))).kept (gSet _ _ _ _) (by first | (simp; done) | (simp; omega)) (by first | (simp; done) | (simp; omega))).kept (gSet _ _ _ _) (by first | (simp; done) | (simp; omega)) (by first | (simp; done) | (simp; omega))).left_eq, hrg.left_eq]; exact hlt
      ·go_wp2_with (first
        | (go_at_call 62; (with_reducible refine (isBetter_any _ _ (c0, c1, ko) (q, c, o) _ (mkIs_of (HN1.out.later HW3'.out (Nat.le_refl _))) (mkIs_of (hno.out.later HW3'.out (Nat.le_refl _))) (by simp only; omega)).mono ?_); rintro e w4 ⟨rfl, hb4⟩; rw [HB1T.out]; have HB4 : Hid (Below w1.heap.size w1 w4) := HW3.out.trans (hb4.mono HW3.out.size); have BK4 := hidP (BK3.out.below hb4 BK3.out.lt); have bB4 := hidP (bB1.out.below HB4.out bB1.out.lt); have q0 := BK4.out.cell 0 (v := .int .i64 c0) rfl; have q1 := BK4.out.cell 1 (v := .int .i64 c1) rfl; have q2 := BK4.out.cell 2 (v := .slice c2 ko.length c4) rfl; have u0 := bB4.out.cell 0 (v := .int .i64 q) rfl; have u1 := bB4.out.cell 1 (v := .int .i64 c) rfl; have u2 := bB4.out.cell 2 (v := .slice avo o.length cvo) rfl; have t0 := bB4.out.fz 0; have t1 := bB4.out.fz 1; have t2 := bB4.out.fz 2; have zz := HB4.out.size; clear hb4)
        | (go_at_call 62; (with_reducible refine (isBetter_any _ _ (q, c, o) (c0, c1, ko) _ (mkIs_of (hno.out.later (HB1.out.trans (HB4.out.mono HB1.out.size)) (Nat.le_refl _))) (mkIs_of (HN1.out.later (HB1.out.trans (HB4.out.mono HB1.out.size)) (Nat.le_refl _))) (by simp only; omega)).mono ?_); rintro e w5 ⟨rfl, hb5⟩; rw [HB2T.out]; have HB5 : Hid (Below w1.heap.size w1 w5) := HB4.out.trans (hb5.mono HB4.out.size); have BK5 := hidP (BK4.out.below hb5 BK4.out.lt); have bB5 := hidP (bB1.out.below HB5.out bB1.out.lt); have qq0 := BK5.out.cell 0 (v := .int .i64 c0) rfl; have qq1 := BK5.out.cell 1 (v := .int .i64 c1) rfl; have qq2 := BK5.out.cell 2 (v := .slice c2 ko.length c4) rfl; have uu0 := bB5.out.cell 0 (v := .int .i64 q) rfl; have uu1 := bB5.out.cell 1 (v := .int .i64 c) rfl; have uu2 := bB5.out.cell 2 (v := .slice avo o.length cvo) rfl; have tt0 := bB5.out.fz 0; have tt1 := bB5.out.fz 1; have tt2 := bB5.out.fz 2; have zz5 := HB5.out.size; clear hb5))
       go_roundw
       case rel => exact ⟨_, cnt1, true, q, c, _, o, hrg1.kept (gNew (r := none) HB5.out) (by simp) (by simp), rfl, bB5, bZ1.out.below HB5.out bZ1.out.lt, (fun _ => HTQ.out), hno, ho8, (by
         intro p y hTp hl
         by_cases e : p = c0
         ·subst e
          rw [HT.out, Option.some.injEq] at hTp
          rw [← hTp]
          exact ⟨rfl, HB1T.out⟩
         ·exact ⟨rfl, (hpre.out p y hTp (left_not e hl)).2⟩), by omega, HB1.out.trans (HB5.out.mono HB1.out.size)⟩
       case measure => rw [(hrg1.kept (gNew (r := none) HB5.out) (by simp) (by simp)).left_eq, hrg.left_eq]; exact hlt
end Go.Proofs.Ytkeeiihaijhdoaa.Sm
