/- The statement CostsMerge: the cheapest paths of one machine or the other are the cheapest of both, for every input and without any condition. -/
import Derived.Test.YtfpibdaedfilaaaHac
import Derived.Test.YtfpibdaedfilaaaHak
import Derived.Test.YtfpibdaedfilaaaHan
import Derived.Test.YtfpibdaedfilaaaHav
import Derived.Test.YtfpibdaedfilaaaHaw
import Derived.Test.YtfpibdaedfilaaaHab
import Derived.Test.YtfpibdaedfilaaaHai
import Derived.Lib.SmallJoins
import Derived.ChangeOld
import Derived.Below
import Derived.Deep.QuietTactic
import Derived.BigQuiet
namespace Go.Proofs.Ytfpibdaedfilaaa.costsMerge
open Go.ChangeShapes Go.WideShapes Go.ChangeAt Go.RowKit
open Go.Proofs.Ytfpibdaedfilaaa.Pl Go.Proofs.Ytfpibdaedfilaaa.Wt
set_option linter.unusedVariables false
set_option linter.unusedSimpArgs false
theorem own : ownKnob Try.prog.godebug = none := by kernel_rfl
theorem laidOut : laidOutB Try.prog = true := by kernel_rfl
theorem cost_res {v : Value} {m : Mc} {n : Nat} {w : World} (hr : faultM m = 0) (hc : CheapL m.2) (hz : 0 ≤ m.1) (hl : m.2.length ≤ 20) (hn : n ≤ 20) (h : Mach w v m) :
  Calls Try.prog 11 #[v, .int .i64 (n : Int)] w fun e w' => ∃ vr L, e = .returned (.tuple #[vr, .int .i64 0]) ∧ CheapN m.2 m.1.toNat n L ∧ Nums w' vr L ∧ Below w.heap.size w w' := by
 refine (Bw.costP_any v m n w h (right_ok hr)).mono ?_
 rintro e w' ⟨vr, L, ec, rfl, hA, hN, hb⟩
 obtain ⟨rfl, hC⟩ := cost_made hr hc hz hl (by omega) (by omega) hA
 rw [Int.toNat_natCast] at hC
 exact ⟨vr, L, rfl, hC, hN, hb⟩
theorem nums_at {w : World} {a : Option Addr} {n c : Nat} {L : List Int} (h : Nums w (.slice a n c) L) (hl : L.length = n) : ∀ j, j < n → ∃ b off, a = some ⟨b, off, none⟩ ∧ b < w.heap.size ∧ w.cell? ⟨b, off + j, none⟩ = some (.int .i64 (el L j)) := by
 obtain ⟨a', c', e, g⟩ := h.get
 simp only [Value.slice.injEq] at e
 obtain ⟨rfl, _, _⟩ := e
 rw [hl] at g
 exact g
theorem el_dropM (A : List Int) (t : Nat) : el (A.drop t) 0 = el A t := by
 simp [el, List.getElem?_drop]
theorem merge_split {f i j t ll lr la : Nat} {L R A : List Int} (hl : L.length = ll) (hr : R.length = lr) (ha : A.length = la) (h : A.drop t = mrgN f (L.drop i) (R.drop j)) (ht : t < la) :
  (lr ≤ j ∧ i < ll ∧ el A t = el L i ∧ ∃ g, A.drop (t + 1) = mrgN g (L.drop (i + 1)) (R.drop j)) ∨
  (j < lr ∧ i < ll ∧ el L i ≤ el R j ∧ el A t = el L i ∧ ∃ g, A.drop (t + 1) = mrgN g (L.drop (i + 1)) (R.drop j)) ∨
  (j < lr ∧ ll ≤ i ∧ el A t = el R j ∧ ∃ g, A.drop (t + 1) = mrgN g (L.drop i) (R.drop (j + 1))) ∨
  (j < lr ∧ i < ll ∧ el R j < el L i ∧ el A t = el R j ∧ ∃ g, A.drop (t + 1) = mrgN g (L.drop i) (R.drop (j + 1))) := by
 have h1 := mrg_next h (by rw [List.length_drop]; omega)
 rw [el_dropM, List.drop_drop, hl, hr] at h1
 rcases h1 with ⟨a1, a2, a3, a4⟩ | ⟨a1, a2, a3, a4, a5⟩ | ⟨a1, a2 | ⟨a2, a3⟩, a4, a5⟩
 ·exact .inl ⟨a1, a2, a3, a4⟩
 ·exact .inr (.inl ⟨a1, a2, a3, a4, a5⟩)
 ·exact .inr (.inr (.inl ⟨a1, a2, a4, a5⟩))
 ·exact .inr (.inr (.inr ⟨a1, a2, a3, a4, a5⟩))
set_option maxRecDepth 100000 in
set_option maxHeartbeats 9600000 in
theorem core (vx : Value) (rx : Rw) (vy : Value) (ry : Rw) (p : Int) (w : World) (hx : RawV w vx rx) (hokx : okR rx) (hwfx : wfR rx) (hy : RawV w vy ry) (hoky : okR ry) (hwfy : wfR ry) (hp : (Lit.int .i64 p).wf = true) :
  Calls Try.prog 7 #[vx, vy, .int .i64 p] w fun e w' => e = .returned (.bool true) ∧ Below w.heap.size w w' := by
 obtain ⟨hfx, hcx, hlx, hax, hpx⟩ := made_facts rx 4 (by omega) (by omega)
 obtain ⟨hfy, hcy, hly, hay, hpy⟩ := made_facts ry 4 (by omega) (by omega)
 have hzx := made_start rx 4 false (by omega)
 have hzy := made_start ry 4 false (by omega)
 have hsx := start_lt hfx
 have hsy := start_lt hfy
 obtain ⟨u1, u2, u3⟩ := two_uni hfx hfy (by omega) (by omega)
 have hUl := uniM_len (madeM rx 4 false) (madeM ry 4 false)
 obtain ⟨n, hn⟩ : ∃ n : Nat, pkR p 21 = (n : Int) := ⟨(pkR p 21).toNat, by have := (pkR_bd p 21 (by omega)).1; omega⟩
 have hn20 : n ≤ 20 := by have := (pkR_bd p 21 (by omega)).2; omega
 have HPK : Hid (∀ W, Calls Try.prog 19 #[.int .i64 p, .int .i64 21] W fun e w' => e = .returned (.int .i64 (n : Int)) ∧ W = w') := fun W => picked_R p _ W hp (by omega) (by omega) _ hn
 have HMX : Hid (∀ W v, RawV W v rx → Calls Try.prog 13 #[v, .int .i64 4, .bool false] W fun e w' => ∃ v', e = .returned v' ∧ Mach w' v' (madeM rx 4 false) ∧ Below W.heap.size W w') := fun W v h1 => made_any v rx 4 false W h1 hokx hwfx (by omega) (by omega)
 have HMY : Hid (∀ W v, RawV W v ry → Calls Try.prog 13 #[v, .int .i64 4, .bool false] W fun e w' => ∃ v', e = .returned v' ∧ Mach w' v' (madeM ry 4 false) ∧ Below W.heap.size W w') := fun W v h1 => made_any v ry 4 false W h1 hoky hwfy (by omega) (by omega)
 have HUN : Hid (∀ W v u, Mach W v (madeM rx 4 false) → Mach W u (madeM ry 4 false) → Calls Try.prog 20 #[v, u] W fun e w' => RatRes (uniM (madeM rx 4 false) (madeM ry 4 false)) 0 W e w') := fun W v u h1 h2 => by
  have := unionP_any v u _ _ W h1 (right_ok hfx) h2 (right_ok hfy)
  rw [u1, u2] at this
  exact this
 have HC1 : Hid (∀ W v, Mach W v (madeM rx 4 false) → Calls Try.prog 11 #[v, .int .i64 (n : Int)] W fun e w' => ∃ vr L, e = .returned (.tuple #[vr, .int .i64 0]) ∧ CheapN (madeM rx 4 false).2 (madeM rx 4 false).1.toNat n L ∧ Nums w' vr L ∧ Below W.heap.size W w') := fun W v h1 => cost_res hfx hcx hzx (by omega) hn20 h1
 have HC2 : Hid (∀ W v, Mach W v (madeM ry 4 false) → Calls Try.prog 11 #[v, .int .i64 (n : Int)] W fun e w' => ∃ vr L, e = .returned (.tuple #[vr, .int .i64 0]) ∧ CheapN (madeM ry 4 false).2 (madeM ry 4 false).1.toNat n L ∧ Nums w' vr L ∧ Below W.heap.size W w') := fun W v h1 => cost_res hfy hcy hzy (by omega) hn20 h1
 have HC3 : Hid (∀ W v, Mach W v (uniM (madeM rx 4 false) (madeM ry 4 false)) → Calls Try.prog 11 #[v, .int .i64 (n : Int)] W fun e w' => ∃ vr L, e = .returned (.tuple #[vr, .int .i64 0]) ∧ CheapN (uniM (madeM rx 4 false) (madeM ry 4 false)).2 0 n L ∧ Nums w' vr L ∧ Below W.heap.size W w') := fun W v h1 => cost_res u3 (uni_cheap hcx hcy) (Int.le_refl 0) (by omega) hn20 h1
 obtain ⟨wd, hwd⟩ : ∃ wd, CstIs (EndC (madeM rx 4 false).2 (madeM rx 4 false).1.toNat) wd := cst_exists (fun c h => end_bound hfx hcx (by omega) h)
 have HLC : Hid (∀ W v, Mach W v (madeM rx 4 false) → Calls Try.prog 12 #[v] W fun e w' => e = .returned (.tuple #[.int .i64 wd, .int .i64 0]) ∧ Below W.heap.size W w') := fun W v h1 => (least_cst v _ W h1 hfx hcx hzx).mono fun e w' ⟨n', he, ha, hb⟩ => by
  have := ha.eq hwd (fun c => Iff.rfl)
  subst this
  exact ⟨he, hb⟩
 have HFC : Hid (∀ L R A, CheapN (madeM rx 4 false).2 (madeM rx 4 false).1.toNat n L → CheapN (madeM ry 4 false).2 (madeM ry 4 false).1.toNat n R → CheapN (uniM (madeM rx 4 false) (madeM ry 4 false)).2 0 n A → A = mrgN n L R ∧ L.length ≤ n ∧ R.length ≤ n ∧ (0 < n → (L = [] ∧ wd = 1000000001) ∨ (0 < L.length ∧ wd ≠ 1000000001))) := fun L R A h1 h2 h3 => ⟨cheap_merge (RgtL.of hfx) (RgtL.of hfy) (y := (madeM rx 4 false).1.toNat) (z := (madeM ry 4 false).1.toNat) (by omega) (by omega) (by omega) (by omega) h1 h2 h3, h1.len, h2.len, fun h0 => by
  rcases cheap_least (RgtL.of hfx) (by omega) h0 h1 hwd with ⟨e1, e2⟩ | ⟨e1, e2, _⟩
  ·exact .inl ⟨e1, e2⟩
  ·exact .inr ⟨e1, e2⟩⟩
 have HIX := hidP hx
 have HIY := hidP hy
 clear hfx hfy hcx hcy u1 u2 u3 hlx hly hax hay hwd hzx hzy hsx hsy hn hp hokx hwfx hoky hwfy
 generalize hmu : uniM (madeM rx 4 false) (madeM ry 4 false) = mu at *
 generalize madeM rx 4 false = mx at *
 generalize madeM ry 4 false = my at *
 have t4 : (2 : Int) ≤ (mu.2.length : Int) := by omega
 clear hmu hUl hpx hpy
 obtain ⟨vr0, rfl, hN⟩ := hx
 obtain ⟨arx, crx, rfl, hN2⟩ := hN.get
 clear hN hN2
 obtain ⟨vr0, rfl, hN⟩ := hy
 obtain ⟨ary, cry, rfl, hN2⟩ := hN.get
 clear hN hN2
 have HU : Hid (Below w.heap.size w ((w.alloc (.cells #[.int .i64 rx.1, .slice arx rx.2.length crx] 24)).alloc (.cells #[.int .i64 ry.1, .slice ary ry.2.length cry] 24))) := ((Below.refl _ _).alloc (Nat.le_refl _) _).alloc (by simp) _
 have BY0 : Hid (Blk ((w.alloc (.cells #[.int .i64 rx.1, .slice arx rx.2.length crx] 24)).alloc (.cells #[.int .i64 ry.1, .slice ary ry.2.length cry] 24)) (w.heap.size + 1) #[.int .i64 ry.1, .slice ary ry.2.length cry] 24) := by
  have := Blk.made (w.alloc (.cells #[.int .i64 rx.1, .slice arx rx.2.length crx] 24)) #[.int .i64 ry.1, .slice ary ry.2.length cry] 24
  rw [World.size_alloc] at this
  exact this
 go_enter Try.func7, Try.ntmps7
 go_wp2_with (first
  | (go_at_call 13; (with_reducible refine (HMX.out _ _ (HIX.out.later HU.out (Nat.le_refl _))).mono ?_); rintro e w1 ⟨v1, rfl, hm, hb⟩; have HMa := hidP hm; obtain ⟨vs1, rfl, hS1⟩ := hm; obtain ⟨ax, cx, rfl⟩ := hS1.sl; clear hS1; have HB0 := hidP HU.out; have HUx : Hid (Below w1.heap.size w1 (w1.alloc (.cells #[.int .i64 mx.1, .slice ax mx.2.length cx] 27))) := (Below.refl _ _).alloc (Nat.le_refl _) _; have hbx := hb.trans (HUx.out.mono hb.size); have BY1 := hidP (BY0.out.below hbx BY0.out.lt); have HB1 : Hid (Below w.heap.size w _) := HB0.out.trans (hbx.mono HB0.out.size); have BMx1 : Hid (Blk (w1.alloc (.cells #[.int .i64 mx.1, .slice ax mx.2.length cx] 27)) w1.heap.size #[.int .i64 mx.1, .slice ax mx.2.length cx] 27) := Blk.made w1 _ _; have HMx1 : Hid (Mach (w1.alloc (.cells #[.int .i64 mx.1, .slice ax mx.2.length cx] 27)) (.agg #[.int .i64 mx.1, .slice ax mx.2.length cx]) mx) := HMa.out.later HUx.out (Nat.le_refl _); clear HUx hbx; have y01 := BY1.out.cell 0 (v := .int .i64 ry.1) rfl; have y11 := BY1.out.cell 1 (v := .slice ary ry.2.length cry) rfl; clear hb HMa)
  | (go_at_call 13; (with_reducible refine (HMY.out _ _ (HIY.out.later HB1.out (Nat.le_refl _))).mono ?_); rintro e w2 ⟨v2, rfl, hm, hb⟩; have HMa := hidP hm; obtain ⟨vs2, rfl, hS2⟩ := hm; obtain ⟨ay, cy, rfl⟩ := hS2.sl; clear hS2; have HUx : Hid (Below w2.heap.size w2 (w2.alloc (.cells #[.int .i64 my.1, .slice ay my.2.length cy] 27))) := (Below.refl _ _).alloc (Nat.le_refl _) _; have hbx := hb.trans (HUx.out.mono hb.size); have BMx2 := hidP (BMx1.out.below hbx BMx1.out.lt); have HMx2 := hidP (HMx1.out.later hbx (Nat.le_refl _)); have HB2 : Hid (Below w.heap.size w _) := HB1.out.trans (hbx.mono HB1.out.size); have BMy2 : Hid (Blk (w2.alloc (.cells #[.int .i64 my.1, .slice ay my.2.length cy] 27)) w2.heap.size #[.int .i64 my.1, .slice ay my.2.length cy] 27) := Blk.made w2 _ _; have HMy2 : Hid (Mach (w2.alloc (.cells #[.int .i64 my.1, .slice ay my.2.length cy] 27)) (.agg #[.int .i64 my.1, .slice ay my.2.length cy]) my) := HMa.out.later HUx.out (Nat.le_refl _); clear HUx hbx; have x02 := BMx2.out.cell 0 (v := .int .i64 mx.1) rfl; have x12 := BMx2.out.cell 1 (v := .slice ax mx.2.length cx) rfl; clear hb HMa y01 y11)
  | (go_at_call 19; (with_reducible refine (HPK.out _).mono ?_); rintro e w' ⟨rfl, rfl⟩)
  | (go_at_call 20; (with_reducible refine (HUN.out _ _ _ HMx2.out HMy2.out).mono ?_); rintro e w3 ⟨v3, rfl, hm, hb⟩; have HMa := hidP hm; obtain ⟨vs3, rfl, hS3⟩ := hm; obtain ⟨au, cu, rfl⟩ := hS3.sl; clear hS3; have HUx : Hid (Below w3.heap.size w3 (w3.alloc (.cells #[.int .i64 mu.1, .slice au mu.2.length cu] 27))) := (Below.refl _ _).alloc (Nat.le_refl _) _; have hbx := hb.trans (HUx.out.mono hb.size); have BMx3 := hidP (BMx2.out.below hbx BMx2.out.lt); have BMy3 := hidP (BMy2.out.below hbx BMy2.out.lt); have HMx3 := hidP (HMx2.out.later hbx (Nat.le_refl _)); have HMy3 := hidP (HMy2.out.later hbx (Nat.le_refl _)); have HB3 : Hid (Below w.heap.size w _) := HB2.out.trans (hbx.mono HB2.out.size); have BMu3 : Hid (Blk (w3.alloc (.cells #[.int .i64 mu.1, .slice au mu.2.length cu] 27)) w3.heap.size #[.int .i64 mu.1, .slice au mu.2.length cu] 27) := Blk.made w3 _ _; have HMu3 : Hid (Mach (w3.alloc (.cells #[.int .i64 mu.1, .slice au mu.2.length cu] 27)) (.agg #[.int .i64 mu.1, .slice au mu.2.length cu]) mu) := HMa.out.later HUx.out (Nat.le_refl _); clear HUx hbx; have x03 := BMx3.out.cell 0 (v := .int .i64 mx.1) rfl; have x13 := BMx3.out.cell 1 (v := .slice ax mx.2.length cx) rfl; clear hb HMa x02 x12)
  | (go_at_call 11; (with_reducible refine (HC1.out _ _ HMx3.out).mono ?_); rintro e w4 ⟨v4, L, rfl, hq, hnn, hb⟩; have HQL := hidP hq; have HNL4 := hidP hnn; obtain ⟨aL, cL, rfl⟩ := Row.sl hnn; have BMx4 := hidP (BMx3.out.below hb BMx3.out.lt); have BMy4 := hidP (BMy3.out.below hb BMy3.out.lt); have BMu4 := hidP (BMu3.out.below hb BMu3.out.lt); have HMx4 := hidP (HMx3.out.later hb (Nat.le_refl _)); have HMy4 := hidP (HMy3.out.later hb (Nat.le_refl _)); have HMu4 := hidP (HMu3.out.later hb (Nat.le_refl _)); have HB4 : Hid (Below w.heap.size w _) := HB3.out.trans (hb.mono HB3.out.size); have y04 := BMy4.out.cell 0 (v := .int .i64 my.1) rfl; have y14 := BMy4.out.cell 1 (v := .slice ay my.2.length cy) rfl; clear hq hnn hb x03 x13)
  | (go_at_call 11; (with_reducible refine (HC2.out _ _ HMy4.out).mono ?_); rintro e w5 ⟨v5, R, rfl, hq, hnn, hb⟩; have HQR := hidP hq; have HNR5 := hidP hnn; obtain ⟨aR, cR, rfl⟩ := Row.sl hnn; have BMx5 := hidP (BMx4.out.below hb BMx4.out.lt); have BMy5 := hidP (BMy4.out.below hb BMy4.out.lt); have BMu5 := hidP (BMu4.out.below hb BMu4.out.lt); have HMx5 := hidP (HMx4.out.later hb (Nat.le_refl _)); have HMy5 := hidP (HMy4.out.later hb (Nat.le_refl _)); have HMu5 := hidP (HMu4.out.later hb (Nat.le_refl _)); have HNL5 := hidP (HNL4.out.later hb (Nat.le_refl _)); have HB5 : Hid (Below w.heap.size w _) := HB4.out.trans (hb.mono HB4.out.size); have u05 := BMu5.out.cell 0 (v := .int .i64 mu.1) rfl; have u15 := BMu5.out.cell 1 (v := .slice au mu.2.length cu) rfl; clear hq hnn hb y04 y14)
  | (go_at_call 11; (with_reducible refine (HC3.out _ _ HMu5.out).mono ?_); rintro e w6 ⟨v6, A, rfl, hq, hnn, hb⟩; have HQA := hidP hq; have HNA6 := hidP hnn; obtain ⟨aA, cA, rfl⟩ := Row.sl hnn; have BMx6 := hidP (BMx5.out.below hb BMx5.out.lt); have BMy6 := hidP (BMy5.out.below hb BMy5.out.lt); have BMu6 := hidP (BMu5.out.below hb BMu5.out.lt); have HMx6 := hidP (HMx5.out.later hb (Nat.le_refl _)); have HMy6 := hidP (HMy5.out.later hb (Nat.le_refl _)); have HMu6 := hidP (HMu5.out.later hb (Nat.le_refl _)); have HNL6 := hidP (HNL5.out.later hb (Nat.le_refl _)); have HNR6 := hidP (HNR5.out.later hb (Nat.le_refl _)); have HB6 : Hid (Below w.heap.size w _) := HB5.out.trans (hb.mono HB5.out.size); have u06 := BMu6.out.cell 0 (v := .int .i64 mu.1) rfl; have u16 := BMu6.out.cell 1 (v := .slice au mu.2.length cu) rfl; obtain ⟨hA, hLn, hRn, hW⟩ := HFC.out L R A HQL.out HQR.out HQA.out; have hAl : A.length = min n (L.length + R.length) := (by rw [hA]; exact mrg_len n L R); have HAE := hidP hA; have HWE := hidP hW; clear hA hW HQL HQR HQA; obtain ⟨la, hla⟩ : ∃ la, A.length = la := ⟨_, rfl⟩; obtain ⟨ll, hll⟩ : ∃ ll, L.length = ll := ⟨_, rfl⟩; obtain ⟨lr, hlr⟩ : ∃ lr, R.length = lr := ⟨_, rfl⟩; rw [hla, hll, hlr] at hAl; rw [hll] at hLn; rw [hlr] at hRn; rw [hla, hll, hlr]; have GA := hidP (by have h9 := HNA6.out; rw [hla] at h9; exact nums_at h9 hla); have GL := hidP (by have h9 := HNL6.out; rw [hll] at h9; exact nums_at h9 hll); have GR := hidP (by have h9 := HNR6.out; rw [hlr] at h9; exact nums_at h9 hlr); have HLA := hidP hla; have HLL := hidP hll; have HLR := hidP hlr; clear hla hll hlr; have hw9 : IntKind.i64.wrap ((ll : Int) + (lr : Int)) = (ll : Int) + (lr : Int) := wrapI (by omega) (by omega); have hmin : ((la : Int) != if (ll : Int) + (lr : Int) < (n : Int) then (ll : Int) + (lr : Int) else (n : Int)) = false := (by simp only [bne_eq_false_iff_eq]; split <;> omega); have HAL := hidP hAl; clear hAl; clear hq hnn hb u05 u15))
 ·have HG0 : Hid (A.drop 0 = mrgN n (L.drop 0) (R.drop 0)) := by show _ = _; simp only [List.drop_zero]; exact HAE.out
  clear hmin hw9 u06 u16 t4
  go_loopw [18, 19, 20] (fun s18 s19 s20 wr => ∃ i j t q : Nat, i ≤ ll ∧ j ≤ lr ∧ t ≤ la ∧ Hid (∃ f, A.drop t = mrgN f (L.drop i) (R.drop j)) ∧ s18 = .int .i64 (i : Int) ∧ s19 = .int .i64 (j : Int) ∧ s20 = .int .i64 (t : Int) ∧ wr = w6.drewN q) (fun _ _ s20 _ => la - (intOf s20).toNat)
  case atStart => exact ⟨0, 0, 0, 0, Nat.zero_le _, Nat.zero_le _, Nat.zero_le _, ⟨_, HG0.out⟩, rfl, rfl, rfl, (World.drewN_zero _).symm⟩
  case round =>
   obtain ⟨i, j, t, q, hi, hj, ht, hM, rfl, rfl, rfl, rfl⟩ := hrel
   have ki : (0 : Int) ≤ (i : Int) := by omega
   have kj : (0 : Int) ≤ (j : Int) := by omega
   have kt : (0 : Int) ≤ (t : Int) := by omega
   have k20 : ll ≤ 20 ∧ lr ≤ 20 := by omega
   have k21 : la ≤ 20 := by have := HAL.out; omega
   by_cases hlt : t < la
   ·have kt1 : (t : Int) < (la : Int) := by omega
    obtain ⟨f, hf⟩ := hM.out
    obtain ⟨tb, tof, hta, htb, t0⟩ := GA.out t hlt
    subst hta
    rcases merge_split HLL.out HLR.out HLA.out hf hlt with ⟨g1, g2, g3, g4⟩ | ⟨g1, g2, g3, g4, g5⟩ | ⟨g1, g2, g3, g4⟩ | ⟨g1, g2, g3, g4, g5⟩
    ·have HG := hidP g4
     obtain ⟨lb, lo, hla, hlb, l0⟩ := GL.out i g2
     subst hla
     rw [g3] at t0
     have d1 : (lr : Int) ≤ (j : Int) := by omega
     have d2 : (i : Int) < (ll : Int) := by omega
     clear hf g3 g4 hM htb hlb
     generalize el L i = xl at *
     go_wp2
     go_quiet (fail)
     obtain ⟨n1, rfl⟩ : ∃ n1, n1 = nq := ⟨_, rfl⟩
     go_wp2
     go_quiet (fail)
     go_wp2
     go_roundw
     case rel => exact ⟨i + 1, j, t + 1, q + n1 + nq, by omega, by omega, by omega, HG.out, by go_num, by go_num, by go_num, by first | rfl | simp only [World.drewN_drewN, Nat.add_assoc]⟩
     case measure => simp [intOf]; omega
    ·have HG := hidP g5
     obtain ⟨lb, lo, hla, hlb, l0⟩ := GL.out i g2
     subst hla
     obtain ⟨rb, ro, hra, hrb, r0⟩ := GR.out j g1
     subst hra
     rw [g4] at t0
     have d1 : (j : Int) < (lr : Int) := by omega
     have d2 : (i : Int) < (ll : Int) := by omega
     clear hf g4 g5 hM htb hlb hrb
     generalize el L i = xl at *
     generalize el R j = xr at *
     go_wp2
     go_quiet (fail)
     obtain ⟨n1, rfl⟩ : ∃ n1, n1 = nq := ⟨_, rfl⟩
     go_wp2
     go_quiet (fail)
     go_wp2
     go_roundw
     case rel => exact ⟨i + 1, j, t + 1, q + n1 + nq, by omega, by omega, by omega, HG.out, by go_num, by go_num, by go_num, by first | rfl | simp only [World.drewN_drewN, Nat.add_assoc]⟩
     case measure => simp [intOf]; omega
    ·have HG := hidP g4
     obtain ⟨rb, ro, hra, hrb, r0⟩ := GR.out j g1
     subst hra
     rw [g3] at t0
     have d1 : (j : Int) < (lr : Int) := by omega
     have d2 : (ll : Int) ≤ (i : Int) := by omega
     have D2 : decide ((i : Int) < (ll : Int)) = false := decide_eq_false (by omega)
     have D2n : decide (i < ll) = false := decide_eq_false (by omega)
     have E1 : decide ((lr : Int) ≤ (j : Int)) = false := decide_eq_false (by omega)
     have E1n : decide (lr ≤ j) = false := decide_eq_false (by omega)
     have E1m : decide (j < lr) = true := decide_eq_true (by omega)
     have E1k : decide ((j : Int) < (lr : Int)) = true := decide_eq_true (by omega)
     clear hf g3 g4 hM htb hrb
     generalize el R j = xr at *
     go_wp2
     have HS : (fun _ : World => True) (w6.drewN q).drew := True.intro
     refine region_anyL (fun _ : World => True) 200 (by kernel_rfl) ?_
     have hdr : (w6.drewN q).drew = w6.drewN (q + 1) := rfl
     rw [hdr]
     rw [hdr] at HS
     refine anyL_tk (i := 0) (v := ?v0_1) aZ0 (by kernel_rfl) ?y0_1 HS ?r0_1
     case y0_1 => intro wx hx; obtain _ := hx; go_simp; try (with_reducible rfl)
     simp only [Act.put, List.setIfInBounds_toArray, List.set_cons_zero, List.set_cons_succ]
     refine anyL_tk (i := 1) (v := ?v1_2) aZ1 (by kernel_rfl) ?y1_2 HS ?r1_2
     case y1_2 => intro wx hx; obtain _ := hx; go_simp; try (with_reducible rfl)
     simp only [Act.put, List.setIfInBounds_toArray, List.set_cons_zero, List.set_cons_succ]
     refine anyL_tk (i := 2) (v := ?v2_3) aZ2 (by kernel_rfl) ?y2_3 HS ?r2_3
     case y2_3 => intro wx hx; obtain _ := hx; go_simp; try (with_reducible rfl)
     simp only [Act.put, List.setIfInBounds_toArray, List.set_cons_zero, List.set_cons_succ]
     refine anyL_tk (i := 3) (v := ?v3_4) aZ3 (by kernel_rfl) ?y3_4 HS ?r3_4
     case y3_4 => intro wx hx; obtain _ := hx; go_simp; try (with_reducible rfl)
     simp only [Act.put, List.setIfInBounds_toArray, List.set_cons_zero, List.set_cons_succ]
     try simp only [E1, E1n, E1m, E1k, Bool.not_true]
     refine anyL_tk (i := 4) (v := ?v4_5) aZ4 (by kernel_rfl) ?y4_5 HS ?r4_5
     case y4_5 => intro wx hx; obtain _ := hx; go_simp; try (with_reducible rfl)
     simp only [Act.put, List.setIfInBounds_toArray, List.set_cons_zero, List.set_cons_succ]
     refine anyL_tg (i := 5) (v := ?v5_13) aZ5 (by kernel_rfl) ?y5_13 HS ?r5_13
     case y5_13 => intro wx hx; obtain _ := hx; go_simp; try (with_reducible rfl)
     simp only [Act.put, List.setIfInBounds_toArray, List.set_cons_zero, List.set_cons_succ]
     refine anyL_tg (i := 6) (v := ?v6_14) aZ6 (by kernel_rfl) ?y6_14 HS ?r6_14
     case y6_14 => intro wx hx; obtain _ := hx; go_simp; try (with_reducible rfl)
     simp only [Act.put, List.setIfInBounds_toArray, List.set_cons_zero, List.set_cons_succ]
     refine anyL_tg (i := 7) (v := ?v7_15) aZ7 (by kernel_rfl) ?y7_15 HS ?r7_15
     case y7_15 => intro wx hx; obtain _ := hx; go_simp; try (with_reducible rfl)
     simp only [Act.put, List.setIfInBounds_toArray, List.set_cons_zero, List.set_cons_succ]
     refine anyL_tg (i := 8) (v := ?v8_16) aZ8 (by kernel_rfl) ?y8_16 HS ?r8_16
     case y8_16 => intro wx hx; obtain _ := hx; go_simp; try (with_reducible rfl)
     simp only [Act.put, List.setIfInBounds_toArray, List.set_cons_zero, List.set_cons_succ]
     try simp only [D2, D2n]
     refine anyL_tg (i := 9) (v := ?v9_17) aZ9 (by kernel_rfl) ?y9_17 HS ?r9_17
     case y9_17 => intro wx hx; obtain _ := hx; go_simp; try (with_reducible rfl)
     simp only [Act.put, List.setIfInBounds_toArray, List.set_cons_zero, List.set_cons_succ]
     refine anyL_skip (i := 10) aZ10 (by kernel_rfl) (by kernel_rfl) (by kernel_rfl) (by kernel_rfl) (fun _ _ _ h => h) (by rfl) HS ?_
     try simp only [Act.put, List.setIfInBounds_toArray, List.set_cons_zero, List.set_cons_succ]
     refine anyL_skip (i := 11) aZ11 (by kernel_rfl) (by kernel_rfl) (by kernel_rfl) (by kernel_rfl) (fun _ _ _ h => h) (by rfl) HS ?_
     try simp only [Act.put, List.setIfInBounds_toArray, List.set_cons_zero, List.set_cons_succ]
     refine anyL_skip (i := 12) aZ12 (by kernel_rfl) (by kernel_rfl) (by kernel_rfl) (by kernel_rfl) (fun _ _ _ h => h) (by rfl) HS ?_
     try simp only [Act.put, List.setIfInBounds_toArray, List.set_cons_zero, List.set_cons_succ]
     refine anyL_skip (i := 13) aZ13 (by kernel_rfl) (by kernel_rfl) (by kernel_rfl) (by kernel_rfl) (fun _ _ _ h => h) (by rfl) HS ?_
     try simp only [Act.put, List.setIfInBounds_toArray, List.set_cons_zero, List.set_cons_succ]
     refine anyL_skip (i := 14) aZ14 (by kernel_rfl) (by kernel_rfl) (by kernel_rfl) (by kernel_rfl) (fun _ _ _ h => h) (by rfl) HS ?_
     try simp only [Act.put, List.setIfInBounds_toArray, List.set_cons_zero, List.set_cons_succ]
     refine anyL_skip (i := 15) aZ15 (by kernel_rfl) (by kernel_rfl) (by kernel_rfl) (by kernel_rfl) (fun _ _ _ h => h) (by rfl) HS ?_
     try simp only [Act.put, List.setIfInBounds_toArray, List.set_cons_zero, List.set_cons_succ]
     refine anyL_skip (i := 16) aZ16 (by kernel_rfl) (by kernel_rfl) (by kernel_rfl) (by kernel_rfl) (fun _ _ _ h => h) (by rfl) HS ?_
     try simp only [Act.put, List.setIfInBounds_toArray, List.set_cons_zero, List.set_cons_succ]
     refine anyL_skip (i := 17) aZ17 (by kernel_rfl) (by kernel_rfl) (by kernel_rfl) (by kernel_rfl) (fun _ _ _ h => h) (by rfl) HS ?_
     try simp only [Act.put, List.setIfInBounds_toArray, List.set_cons_zero, List.set_cons_succ]
     refine anyL_skip (i := 18) aZ18 (by kernel_rfl) (by kernel_rfl) (by kernel_rfl) (by kernel_rfl) (fun _ _ _ h => h) (by rfl) HS ?_
     try simp only [Act.put, List.setIfInBounds_toArray, List.set_cons_zero, List.set_cons_succ]
     refine anyL_tg (i := 19) (v := ?v19_18) aZ19 (by kernel_rfl) ?y19_18 HS ?r19_18
     case y19_18 => intro wx hx; obtain _ := hx; go_simp; try (with_reducible rfl)
     simp only [Act.put, List.setIfInBounds_toArray, List.set_cons_zero, List.set_cons_succ]
     refine anyL_tk (i := 20) (v := ?v20_6) aZ20 (by kernel_rfl) ?y20_6 HS ?r20_6
     case y20_6 => intro wx hx; obtain _ := hx; go_simp; try (with_reducible rfl)
     simp only [Act.put, List.setIfInBounds_toArray, List.set_cons_zero, List.set_cons_succ]
     refine anyL_done (by kernel_rfl) (NoPanic.normal ?_)
     try simp only [Act.put, List.setIfInBounds_toArray, List.set_cons_zero, List.set_cons_succ]
     clear HS hdr
     go_wp2
     go_quiet (fail)
     go_wp2
     go_roundw
     case rel => exact ⟨i, j + 1, t + 1, q + 1 + nq, by omega, by omega, by omega, HG.out, by go_num, by go_num, by go_num, by first | rfl | simp only [World.drewN_drewN, Nat.add_assoc]⟩
     case measure => simp [intOf]; omega
    ·have HG := hidP g5
     obtain ⟨lb, lo, hla, hlb, l0⟩ := GL.out i g2
     subst hla
     obtain ⟨rb, ro, hra, hrb, r0⟩ := GR.out j g1
     subst hra
     rw [g4] at t0
     have d1 : (j : Int) < (lr : Int) := by omega
     have d2 : (i : Int) < (ll : Int) := by omega
     clear hf g4 g5 hM htb hlb hrb
     generalize el L i = xl at *
     generalize el R j = xr at *
     go_wp2
     go_quiet (fail)
     obtain ⟨n1, rfl⟩ : ∃ n1, n1 = nq := ⟨_, rfl⟩
     go_wp2
     go_quiet (fail)
     go_wp2
     go_roundw
     case rel => exact ⟨i, j + 1, t + 1, q + n1 + nq, by omega, by omega, by omega, HG.out, by go_num, by go_num, by go_num, by first | rfl | simp only [World.drewN_drewN, Nat.add_assoc]⟩
     case measure => simp [intOf]; omega
   ·have hnl : (la : Int) ≤ (t : Int) := by omega
    have HBd : Hid (Below w6.heap.size w6 (w6.drewN q)) := below_drewN (Below.refl _ _) q
    have BMxq := hidP (BMx6.out.below HBd.out BMx6.out.lt)
    have HMxq := hidP (HMx6.out.later HBd.out (Nat.le_refl _))
    have HBq : Hid (Below w.heap.size w (w6.drewN q)) := below_drewN HB6.out q
    have x0q := BMxq.out.cell 0 (v := .int .i64 mx.1) rfl
    have x1q := BMxq.out.cell 1 (v := .slice ax mx.2.length cx) rfl
    clear hM HBd
    by_cases hn0 : n = 0
    ·have hn1 : ((n : Int) == 0) = true := by simp [hn0]
     clear hn0
     go_wp2_with (first
      | (go_at_call 12; (with_reducible refine (HLC.out _ _ HMxq.out).mono ?_); rintro e w8 ⟨rfl, hb⟩; have HB8 : Hid (Below w.heap.size w w8) := HBq.out.trans (hb.mono HBq.out.size); clear hb x0q x1q))
     go_ret
     exact ⟨rfl, HB8.out⟩
    ·have hn1 : ((n : Int) == 0) = false := by simp; omega
     rcases HWE.out (by omega) with ⟨e1, e2⟩ | ⟨e1, e2⟩
     ·have hll0 : (ll : Int) ≤ 0 := by have := HLL.out; rw [e1] at this; simp at this; omega
      have hwd : (wd != 1000000001) = false := by simp [e2]
      clear e1 e2 hn0
      go_wp2_with (first
       | (go_at_call 12; (with_reducible refine (HLC.out _ _ HMxq.out).mono ?_); rintro e w8 ⟨rfl, hb⟩; have HB8 : Hid (Below w.heap.size w w8) := HBq.out.trans (hb.mono HBq.out.size); clear hb x0q x1q))
      go_ret
      have hz : ll = 0 := by omega
      first | exact ⟨rfl, HB8.out⟩ | exact ⟨by simp [hz], HB8.out⟩
     ·have hll0 : (0 : Int) < (ll : Int) := by have := HLL.out; omega
      have hwd : (wd != 1000000001) = true := by simp [e2]
      clear e1 e2 hn0
      go_wp2_with (first
       | (go_at_call 12; (with_reducible refine (HLC.out _ _ HMxq.out).mono ?_); rintro e w8 ⟨rfl, hb⟩; have HB8 : Hid (Below w.heap.size w w8) := HBq.out.trans (hb.mono HBq.out.size); clear hb x0q x1q))
      go_ret
      have hz : 0 < ll := by omega
      first | exact ⟨rfl, HB8.out⟩ | exact ⟨by simp [hz], HB8.out⟩
 ·have HG0 : Hid (A.drop 0 = mrgN n (L.drop 0) (R.drop 0)) := by show _ = _; simp only [List.drop_zero]; exact HAE.out
  clear hmin hw9 u06 u16 t4
  go_loopw [18, 19, 20] (fun s18 s19 s20 wr => ∃ i j t q : Nat, i ≤ ll ∧ j ≤ lr ∧ t ≤ la ∧ Hid (∃ f, A.drop t = mrgN f (L.drop i) (R.drop j)) ∧ s18 = .int .i64 (i : Int) ∧ s19 = .int .i64 (j : Int) ∧ s20 = .int .i64 (t : Int) ∧ wr = w6.drewN q) (fun _ _ s20 _ => la - (intOf s20).toNat)
  case atStart => exact ⟨0, 0, 0, 0, Nat.zero_le _, Nat.zero_le _, Nat.zero_le _, ⟨_, HG0.out⟩, rfl, rfl, rfl, (World.drewN_zero _).symm⟩
  case round =>
   obtain ⟨i, j, t, q, hi, hj, ht, hM, rfl, rfl, rfl, rfl⟩ := hrel
   have ki : (0 : Int) ≤ (i : Int) := by omega
   have kj : (0 : Int) ≤ (j : Int) := by omega
   have kt : (0 : Int) ≤ (t : Int) := by omega
   have k20 : ll ≤ 20 ∧ lr ≤ 20 := by omega
   have k21 : la ≤ 20 := by have := HAL.out; omega
   by_cases hlt : t < la
   ·have kt1 : (t : Int) < (la : Int) := by omega
    obtain ⟨f, hf⟩ := hM.out
    obtain ⟨tb, tof, hta, htb, t0⟩ := GA.out t hlt
    subst hta
    rcases merge_split HLL.out HLR.out HLA.out hf hlt with ⟨g1, g2, g3, g4⟩ | ⟨g1, g2, g3, g4, g5⟩ | ⟨g1, g2, g3, g4⟩ | ⟨g1, g2, g3, g4, g5⟩
    ·have HG := hidP g4
     obtain ⟨lb, lo, hla, hlb, l0⟩ := GL.out i g2
     subst hla
     rw [g3] at t0
     have d1 : (lr : Int) ≤ (j : Int) := by omega
     have d2 : (i : Int) < (ll : Int) := by omega
     clear hf g3 g4 hM htb hlb
     generalize el L i = xl at *
     go_wp2
     go_quiet (fail)
     obtain ⟨n1, rfl⟩ : ∃ n1, n1 = nq := ⟨_, rfl⟩
     go_wp2
     go_quiet (fail)
     go_wp2
     go_roundw
     case rel => exact ⟨i + 1, j, t + 1, q + n1 + nq, by omega, by omega, by omega, HG.out, by go_num, by go_num, by go_num, by first | rfl | simp only [World.drewN_drewN, Nat.add_assoc]⟩
     case measure => simp [intOf]; omega
    ·have HG := hidP g5
     obtain ⟨lb, lo, hla, hlb, l0⟩ := GL.out i g2
     subst hla
     obtain ⟨rb, ro, hra, hrb, r0⟩ := GR.out j g1
     subst hra
     rw [g4] at t0
     have d1 : (j : Int) < (lr : Int) := by omega
     have d2 : (i : Int) < (ll : Int) := by omega
     clear hf g4 g5 hM htb hlb hrb
     generalize el L i = xl at *
     generalize el R j = xr at *
     go_wp2
     go_quiet (fail)
     obtain ⟨n1, rfl⟩ : ∃ n1, n1 = nq := ⟨_, rfl⟩
     go_wp2
     go_quiet (fail)
     go_wp2
     go_roundw
     case rel => exact ⟨i + 1, j, t + 1, q + n1 + nq, by omega, by omega, by omega, HG.out, by go_num, by go_num, by go_num, by first | rfl | simp only [World.drewN_drewN, Nat.add_assoc]⟩
     case measure => simp [intOf]; omega
    ·have HG := hidP g4
     obtain ⟨rb, ro, hra, hrb, r0⟩ := GR.out j g1
     subst hra
     rw [g3] at t0
     have d1 : (j : Int) < (lr : Int) := by omega
     have d2 : (ll : Int) ≤ (i : Int) := by omega
     have D2 : decide ((i : Int) < (ll : Int)) = false := decide_eq_false (by omega)
     have D2n : decide (i < ll) = false := decide_eq_false (by omega)
     have E1 : decide ((lr : Int) ≤ (j : Int)) = false := decide_eq_false (by omega)
     have E1n : decide (lr ≤ j) = false := decide_eq_false (by omega)
     have E1m : decide (j < lr) = true := decide_eq_true (by omega)
     have E1k : decide ((j : Int) < (lr : Int)) = true := decide_eq_true (by omega)
     clear hf g3 g4 hM htb hrb
     generalize el R j = xr at *
     go_wp2
     have HS : (fun _ : World => True) (w6.drewN q).drew := True.intro
     refine region_anyL (fun _ : World => True) 200 (by kernel_rfl) ?_
     have hdr : (w6.drewN q).drew = w6.drewN (q + 1) := rfl
     rw [hdr]
     rw [hdr] at HS
     refine anyL_tk (i := 0) (v := ?v0_7) aZ0 (by kernel_rfl) ?y0_7 HS ?r0_7
     case y0_7 => intro wx hx; obtain _ := hx; go_simp; try (with_reducible rfl)
     simp only [Act.put, List.setIfInBounds_toArray, List.set_cons_zero, List.set_cons_succ]
     refine anyL_tk (i := 1) (v := ?v1_8) aZ1 (by kernel_rfl) ?y1_8 HS ?r1_8
     case y1_8 => intro wx hx; obtain _ := hx; go_simp; try (with_reducible rfl)
     simp only [Act.put, List.setIfInBounds_toArray, List.set_cons_zero, List.set_cons_succ]
     refine anyL_tk (i := 2) (v := ?v2_9) aZ2 (by kernel_rfl) ?y2_9 HS ?r2_9
     case y2_9 => intro wx hx; obtain _ := hx; go_simp; try (with_reducible rfl)
     simp only [Act.put, List.setIfInBounds_toArray, List.set_cons_zero, List.set_cons_succ]
     refine anyL_tk (i := 3) (v := ?v3_10) aZ3 (by kernel_rfl) ?y3_10 HS ?r3_10
     case y3_10 => intro wx hx; obtain _ := hx; go_simp; try (with_reducible rfl)
     simp only [Act.put, List.setIfInBounds_toArray, List.set_cons_zero, List.set_cons_succ]
     try simp only [E1, E1n, E1m, E1k, Bool.not_true]
     refine anyL_tk (i := 4) (v := ?v4_11) aZ4 (by kernel_rfl) ?y4_11 HS ?r4_11
     case y4_11 => intro wx hx; obtain _ := hx; go_simp; try (with_reducible rfl)
     simp only [Act.put, List.setIfInBounds_toArray, List.set_cons_zero, List.set_cons_succ]
     refine anyL_tg (i := 5) (v := ?v5_19) aZ5 (by kernel_rfl) ?y5_19 HS ?r5_19
     case y5_19 => intro wx hx; obtain _ := hx; go_simp; try (with_reducible rfl)
     simp only [Act.put, List.setIfInBounds_toArray, List.set_cons_zero, List.set_cons_succ]
     refine anyL_tg (i := 6) (v := ?v6_20) aZ6 (by kernel_rfl) ?y6_20 HS ?r6_20
     case y6_20 => intro wx hx; obtain _ := hx; go_simp; try (with_reducible rfl)
     simp only [Act.put, List.setIfInBounds_toArray, List.set_cons_zero, List.set_cons_succ]
     refine anyL_tg (i := 7) (v := ?v7_21) aZ7 (by kernel_rfl) ?y7_21 HS ?r7_21
     case y7_21 => intro wx hx; obtain _ := hx; go_simp; try (with_reducible rfl)
     simp only [Act.put, List.setIfInBounds_toArray, List.set_cons_zero, List.set_cons_succ]
     refine anyL_tg (i := 8) (v := ?v8_22) aZ8 (by kernel_rfl) ?y8_22 HS ?r8_22
     case y8_22 => intro wx hx; obtain _ := hx; go_simp; try (with_reducible rfl)
     simp only [Act.put, List.setIfInBounds_toArray, List.set_cons_zero, List.set_cons_succ]
     try simp only [D2, D2n]
     refine anyL_tg (i := 9) (v := ?v9_23) aZ9 (by kernel_rfl) ?y9_23 HS ?r9_23
     case y9_23 => intro wx hx; obtain _ := hx; go_simp; try (with_reducible rfl)
     simp only [Act.put, List.setIfInBounds_toArray, List.set_cons_zero, List.set_cons_succ]
     refine anyL_skip (i := 10) aZ10 (by kernel_rfl) (by kernel_rfl) (by kernel_rfl) (by kernel_rfl) (fun _ _ _ h => h) (by rfl) HS ?_
     try simp only [Act.put, List.setIfInBounds_toArray, List.set_cons_zero, List.set_cons_succ]
     refine anyL_skip (i := 11) aZ11 (by kernel_rfl) (by kernel_rfl) (by kernel_rfl) (by kernel_rfl) (fun _ _ _ h => h) (by rfl) HS ?_
     try simp only [Act.put, List.setIfInBounds_toArray, List.set_cons_zero, List.set_cons_succ]
     refine anyL_skip (i := 12) aZ12 (by kernel_rfl) (by kernel_rfl) (by kernel_rfl) (by kernel_rfl) (fun _ _ _ h => h) (by rfl) HS ?_
     try simp only [Act.put, List.setIfInBounds_toArray, List.set_cons_zero, List.set_cons_succ]
     refine anyL_skip (i := 13) aZ13 (by kernel_rfl) (by kernel_rfl) (by kernel_rfl) (by kernel_rfl) (fun _ _ _ h => h) (by rfl) HS ?_
     try simp only [Act.put, List.setIfInBounds_toArray, List.set_cons_zero, List.set_cons_succ]
     refine anyL_skip (i := 14) aZ14 (by kernel_rfl) (by kernel_rfl) (by kernel_rfl) (by kernel_rfl) (fun _ _ _ h => h) (by rfl) HS ?_
     try simp only [Act.put, List.setIfInBounds_toArray, List.set_cons_zero, List.set_cons_succ]
     refine anyL_skip (i := 15) aZ15 (by kernel_rfl) (by kernel_rfl) (by kernel_rfl) (by kernel_rfl) (fun _ _ _ h => h) (by rfl) HS ?_
     try simp only [Act.put, List.setIfInBounds_toArray, List.set_cons_zero, List.set_cons_succ]
     refine anyL_skip (i := 16) aZ16 (by kernel_rfl) (by kernel_rfl) (by kernel_rfl) (by kernel_rfl) (fun _ _ _ h => h) (by rfl) HS ?_
     try simp only [Act.put, List.setIfInBounds_toArray, List.set_cons_zero, List.set_cons_succ]
     refine anyL_skip (i := 17) aZ17 (by kernel_rfl) (by kernel_rfl) (by kernel_rfl) (by kernel_rfl) (fun _ _ _ h => h) (by rfl) HS ?_
     try simp only [Act.put, List.setIfInBounds_toArray, List.set_cons_zero, List.set_cons_succ]
     refine anyL_skip (i := 18) aZ18 (by kernel_rfl) (by kernel_rfl) (by kernel_rfl) (by kernel_rfl) (fun _ _ _ h => h) (by rfl) HS ?_
     try simp only [Act.put, List.setIfInBounds_toArray, List.set_cons_zero, List.set_cons_succ]
     refine anyL_tg (i := 19) (v := ?v19_24) aZ19 (by kernel_rfl) ?y19_24 HS ?r19_24
     case y19_24 => intro wx hx; obtain _ := hx; go_simp; try (with_reducible rfl)
     simp only [Act.put, List.setIfInBounds_toArray, List.set_cons_zero, List.set_cons_succ]
     refine anyL_tk (i := 20) (v := ?v20_12) aZ20 (by kernel_rfl) ?y20_12 HS ?r20_12
     case y20_12 => intro wx hx; obtain _ := hx; go_simp; try (with_reducible rfl)
     simp only [Act.put, List.setIfInBounds_toArray, List.set_cons_zero, List.set_cons_succ]
     refine anyL_done (by kernel_rfl) (NoPanic.normal ?_)
     try simp only [Act.put, List.setIfInBounds_toArray, List.set_cons_zero, List.set_cons_succ]
     clear HS hdr
     go_wp2
     go_quiet (fail)
     go_wp2
     go_roundw
     case rel => exact ⟨i, j + 1, t + 1, q + 1 + nq, by omega, by omega, by omega, HG.out, by go_num, by go_num, by go_num, by first | rfl | simp only [World.drewN_drewN, Nat.add_assoc]⟩
     case measure => simp [intOf]; omega
    ·have HG := hidP g5
     obtain ⟨lb, lo, hla, hlb, l0⟩ := GL.out i g2
     subst hla
     obtain ⟨rb, ro, hra, hrb, r0⟩ := GR.out j g1
     subst hra
     rw [g4] at t0
     have d1 : (j : Int) < (lr : Int) := by omega
     have d2 : (i : Int) < (ll : Int) := by omega
     clear hf g4 g5 hM htb hlb hrb
     generalize el L i = xl at *
     generalize el R j = xr at *
     go_wp2
     go_quiet (fail)
     obtain ⟨n1, rfl⟩ : ∃ n1, n1 = nq := ⟨_, rfl⟩
     go_wp2
     go_quiet (fail)
     go_wp2
     go_roundw
     case rel => exact ⟨i, j + 1, t + 1, q + n1 + nq, by omega, by omega, by omega, HG.out, by go_num, by go_num, by go_num, by first | rfl | simp only [World.drewN_drewN, Nat.add_assoc]⟩
     case measure => simp [intOf]; omega
   ·have hnl : (la : Int) ≤ (t : Int) := by omega
    have HBd : Hid (Below w6.heap.size w6 (w6.drewN q)) := below_drewN (Below.refl _ _) q
    have BMxq := hidP (BMx6.out.below HBd.out BMx6.out.lt)
    have HMxq := hidP (HMx6.out.later HBd.out (Nat.le_refl _))
    have HBq : Hid (Below w.heap.size w (w6.drewN q)) := below_drewN HB6.out q
    have x0q := BMxq.out.cell 0 (v := .int .i64 mx.1) rfl
    have x1q := BMxq.out.cell 1 (v := .slice ax mx.2.length cx) rfl
    clear hM HBd
    by_cases hn0 : n = 0
    ·have hn1 : ((n : Int) == 0) = true := by simp [hn0]
     clear hn0
     go_wp2_with (first
      | (go_at_call 12; (with_reducible refine (HLC.out _ _ HMxq.out).mono ?_); rintro e w8 ⟨rfl, hb⟩; have HB8 : Hid (Below w.heap.size w w8) := HBq.out.trans (hb.mono HBq.out.size); clear hb x0q x1q))
     go_ret
     exact ⟨rfl, HB8.out⟩
    ·have hn1 : ((n : Int) == 0) = false := by simp; omega
     rcases HWE.out (by omega) with ⟨e1, e2⟩ | ⟨e1, e2⟩
     ·have hll0 : (ll : Int) ≤ 0 := by have := HLL.out; rw [e1] at this; simp at this; omega
      have hwd : (wd != 1000000001) = false := by simp [e2]
      clear e1 e2 hn0
      go_wp2_with (first
       | (go_at_call 12; (with_reducible refine (HLC.out _ _ HMxq.out).mono ?_); rintro e w8 ⟨rfl, hb⟩; have HB8 : Hid (Below w.heap.size w w8) := HBq.out.trans (hb.mono HBq.out.size); clear hb x0q x1q))
      go_ret
      have hz : ll = 0 := by omega
      first | exact ⟨rfl, HB8.out⟩ | exact ⟨by simp [hz], HB8.out⟩
     ·have hll0 : (0 : Int) < (ll : Int) := by have := HLL.out; omega
      have hwd : (wd != 1000000001) = true := by simp [e2]
      clear e1 e2 hn0
      go_wp2_with (first
       | (go_at_call 12; (with_reducible refine (HLC.out _ _ HMxq.out).mono ?_); rintro e w8 ⟨rfl, hb⟩; have HB8 : Hid (Below w.heap.size w w8) := HBq.out.trans (hb.mono HBq.out.size); clear hb x0q x1q))
      go_ret
      have hz : 0 < ll := by omega
      first | exact ⟨rfl, HB8.out⟩ | exact ⟨by simp [hz], HB8.out⟩
theorem walk (vx : Value) (rx : Rw) (vy : Value) (ry : Rw) (k : Int) (w : World) (hx : RawV w vx rx ∧ okR rx ∧ wfR rx) (hy : RawV w vy ry ∧ okR ry ∧ wfR ry) (hk : (Lit.int .i64 k).wf = true) :
 Calls Try.prog 7 #[vx, vy, .int .i64 k] w fun e w' => e = .returned (.bool true) ∧ Below w.heap.size w w' := core vx rx vy ry k w hx.1 hx.2.1 hx.2.2 hy.1 hy.2.1 hy.2.2 hk
set_option maxRecDepth 100000 in
theorem lifted (os : Os) (started : os.Started) (H : Type) (enc : TypeId × Value → H) :
  ReturnsInHanded {} Try.checked os 7 .any (Rows.costsMergeSpec.pre6 enc Try.prog Try.f7 Rows.costsMergeRow.domain false) (Rows.costsMergeSpec.post enc Try.prog Try.f7 false true false false) := by
 refine returnsInHanded_of_change_sized (C := Try.checked) own started (by kernel_rfl) Try.func7
  (ChangeSpec.witness6 (enc := enc) (C := Try.checked) false ⟨#[], #[.agg #[.int .i64 0, .slice none 0 0], .agg #[.int .i64 0, .slice none 0 0], .int .i64 0], []⟩ 8 (by kernel_rfl) (by kernel_rfl) (by kernel_rfl) (by kernel_rfl)) ?_
 intro W base args ds gs before hval0 hW hcnd hsz0 _
 have hsz : (DataW.weightsEach Try.prog (Try.f7.params.toList ++ Rows.costsMergeSpec.plain.varTypes Try.prog) (ds ++ gs)).all (· ≤ reachBytes) = true := hsz0
 have hval : ∀ (j : Nat) t v, Try.f7.params[j]? = some t → args[j]? = some v → Value.okWide Try.prog W .any base t v := hval0
 clear hval0 hsz0
 have hW' := hW
 obtain ⟨p, q, hA0, hV, rfl, hfz, hnd⟩ := hW
 have hA : DataW.TrodAll enc Try.prog W 0 (fun _ => true) true Try.f7.params.toList args.toList ds p := hA0
 rw [Try.params7] at hA hval hsz
 obtain ⟨v0, vs0, d0, ds0, p0, q0, hargs, rfl, rfl, h0, r0⟩ := trodAll_cons hA
 obtain ⟨v1, vs1, d1, ds1, p1, q1, rfl, rfl, rfl, h1, r1⟩ := trodAll_cons r0
 obtain ⟨v2, vs2, d2, ds2, p2, q2, rfl, rfl, rfl, h2, r2⟩ := trodAll_cons r1
 obtain ⟨rfl, rfl, rfl⟩ := trodAll_nil r2
 obtain rfl : args = #[v0, v1, v2] := by cases args; simp_all
 obtain ⟨rfl, rfl⟩ := trodVars_none hV
 have k0 := h0
 have lt0 : ∀ x ∈ p0, x.block < W.heap.size := by obtain ⟨m, hm⟩ := k0; exact DataW.trod_lt m _ _ _ hm
 obtain ⟨z0, w0⟩ : ∃ m : Rw, RawV W v0 m ∧ okR m ∧ wfR m := by
  obtain ⟨c0, c1, y0, y1, n, rfl, hd, hp, t0, t1⟩ := Go.Joins.open_agg2 Try.underlying24 (by kernel_rfl) (by kernel_rfl) (hval 0 24 v0 rfl rfl) h0
  subst hd
  exact open_raw t0 t1 ((Fits.arg hsz (j := 0) rfl rfl).field Try.underlying24 (f := 1) rfl rfl)
 have k1 := h1
 have lt1 : ∀ x ∈ p1, x.block < W.heap.size := by obtain ⟨m, hm⟩ := k1; exact DataW.trod_lt m _ _ _ hm
 obtain ⟨z1, w1⟩ : ∃ m : Rw, RawV W v1 m ∧ okR m ∧ wfR m := by
  obtain ⟨c0, c1, y0, y1, n, rfl, hd, hp, t0, t1⟩ := Go.Joins.open_agg2 Try.underlying24 (by kernel_rfl) (by kernel_rfl) (hval 1 24 v1 rfl rfl) h1
  subst hd
  exact open_raw t0 t1 ((Fits.arg hsz (j := 1) rfl rfl).field Try.underlying24 (f := 1) rfl rfl)
 obtain ⟨a2, rfl, rfl, rfl, w2⟩ := open_int Try.underlying3 (hval 2 3 v2 rfl rfl) h2
 refine (walk v0 z0 v1 z1 a2 W w0 w1 w2).mono fun e W' ⟨he, bel⟩ => ?_
 subst he
 exact ⟨_, rfl, _, _, _, [], _, [], hW', trodAll_mk1 (shut_bool Try.underlying4 _), (trodAll_cons_mk (Below.trod laidOut (by kernel_rfl) (of_decide_eq_true (by kernel_rfl)) k0 bel lt0) (trodAll_cons_mk (Below.trod laidOut (by kernel_rfl) (of_decide_eq_true (by kernel_rfl)) k1 bel lt1) (trodAll_cons_mk (shut_int Try.underlying3 w2) trodAll_mk0))), rfl, bel.frame _, fun h => by cases h⟩
end Go.Proofs.Ytfpibdaedfilaaa.costsMerge
namespace Go.Proofs.Ytfpibdaedfilaaa
theorem costsMerge_holds : Rows.CostsMergeSaid :=
 OpenClaim.holds_of_wide 7 Try.f7 rfl rfl rfl rfl rfl rfl rfl ⟨rfl, rfl, rfl, rfl, rfl⟩ rfl rfl rfl rfl rfl (by kernel_rfl) Try.func7 (by kernel_rfl)
  (of_decide_eq_true (by kernel_rfl)) (by unfold Func.isWrapper; first | (rw [if_pos (by decide +kernel)]; kernel_rfl) | (rw [if_neg (by decide +kernel)]; exact ⟨rfl, rfl⟩))
  (fun os started H enc _ => costsMerge.lifted os started H enc)
#print axioms costsMerge_holds
end Go.Proofs.Ytfpibdaedfilaaa
