/- The reference: where arcs lead that read nothing, round by round. -/
import Derived.Test.YtkeeiihaijhdoaaFan
import Derived.Test.YtkeeiihaijhdoaaFah
namespace Go.Proofs.Ytkeeiihaijhdoaa.Sm
open Go.ChangeShapes Go.WideShapes Go.ChangeAt Go.RowKit
open Go.Proofs.Ytkeeiihaijhdoaa.Pl Go.Proofs.Ytkeeiihaijhdoaa.Wt
set_option linter.unusedVariables false
set_option linter.unusedSimpArgs false
theorem bestT_any (B X : Nat) (ka kb : Mk) (a0 b0 : Option Addr) (ca cb : Nat) (w : World) (ha : NumE B X w (.slice a0 ka.2.2.length ca) ka.2.2) (hb : NumE B X w (.slice b0 kb.2.2.length cb) kb.2.2) (hs : kb.2.2.length ≤ 1000000) :
  Calls Try.prog 42 #[.agg #[.int .i64 ka.1, .int .i64 ka.2.1, .slice a0 ka.2.2.length ca], .agg #[.int .i64 kb.1, .int .i64 kb.2.1, .slice b0 kb.2.2.length cb]] w fun e w' => ∃ (a : Option Addr) (c : Nat), e = .returned (.agg #[.int .i64 (bstM ka kb).1, .int .i64 (bstM ka kb).2.1, .slice a (bstM ka kb).2.2.length c]) ∧ NumE B X w' (.slice a (bstM ka kb).2.2.length c) (bstM ka kb).2.2 ∧ Below w.heap.size w w' := by
 refine (bestOf_any _ _ ka kb w ⟨_, rfl, ha.nums⟩ ⟨_, rfl, hb.nums⟩ (by omega)).mono ?_
 rintro e w' ⟨rfl, h⟩
 unfold bstM
 by_cases hc : ka.1 < 0 ∨ (0 ≤ kb.1 ∧ betB kb.2 ka.2 = true)
 ·rw [if_pos hc, if_pos hc]
  exact ⟨b0, cb, rfl, hb.below h, h⟩
 ·rw [if_neg hc, if_neg hc]
  exact ⟨a0, ca, rfl, ha.below h, h⟩
def Held6 (b o d p : Nat) (x0 x1 x2 y0 y1 y2 : Value) (w : World) : Prop := w.cell? ⟨b, o, none⟩ = some x0 ∧ w.cell? ⟨b, o + 1, none⟩ = some x1 ∧ w.cell? ⟨b, o + 2, none⟩ = some x2 ∧ w.cell? ⟨d, p, none⟩ = some y0 ∧ w.cell? ⟨d, p + 1, none⟩ = some y1 ∧ w.cell? ⟨d, p + 2, none⟩ = some y2
def Held7 (b o d : Nat) (x0 x1 x2 y0 y1 y2 y3 : Value) (w : World) : Prop := w.cell? ⟨b, o, none⟩ = some x0 ∧ w.cell? ⟨b, o + 1, none⟩ = some x1 ∧ w.cell? ⟨b, o + 2, none⟩ = some x2 ∧ w.cell? ⟨d, 0, none⟩ = some y0 ∧ w.cell? ⟨d, 1, none⟩ = some y1 ∧ w.cell? ⟨d, 2, none⟩ = some y2 ∧ w.cell? ⟨d, 3, none⟩ = some y3
def Held8 (b o d p : Nat) (x0 x1 x2 y3 z0 z1 z2 : Value) (w : World) : Prop := w.cell? ⟨b, o, none⟩ = some x0 ∧ w.cell? ⟨b, o + 1, none⟩ = some x1 ∧ w.cell? ⟨b, o + 2, none⟩ = some x2 ∧ w.cell? ⟨d, 3, none⟩ = some y3 ∧ w.cell? ⟨p, 0, none⟩ = some z0 ∧ w.cell? ⟨p, 1, none⟩ = some z1 ∧ w.cell? ⟨p, 2, none⟩ = some z2
set_option maxRecDepth 100000 in
set_option maxHeartbeats 8000000 in
theorem closedR_any (v : Value) (mc : Mc) (vl : Value) (ms0 : List Mk) (T : Tbl) (A : Int) (Bd : Nat) (X : Nat) (w : World) (hX : X < w.heap.size) (h : Mach w v mc) (hok : okM mc) (hf : faultM mc = 0) (hML : MarksX X w vl ms0) (hTR : TRel mc.2.length T ms0) (hb : BndT A Bd T) (hA : A ≤ 100000000000000) (hBB : Bd ≤ 100000) :
  Calls Try.prog 56 #[v, vl] w fun e w' => ∃ v' ms', e = .returned v' ∧ MarksX X w' v' ms' ∧ TRel mc.2.length (itT mc mc.2.length T mc.2.length) ms' ∧ Below w.heap.size w w' := by
 have HBI : Hid (∀ k : Nat, BndT (A + 1000000000 * k) (Bd + k) (itT mc mc.2.length T k)) := itT_bnd hf hb
 have HIS : Hid (∀ k, itT mc mc.2.length T (k + 1) = rndN mc (itT mc mc.2.length T k) mc.2.length) := fun k => rfl
 have HI0 : Hid (TRel mc.2.length (itT mc mc.2.length T 0) ms0) := hTR
 have HM0 := hidP hML
 have HF := hidP hf
 have h60 : mc.2.length ≤ 60 := by obtain ⟨z, l⟩ := mc; exact (right_size hf).1
 obtain ⟨z, l⟩ := mc
 obtain ⟨vs, rfl, hS⟩ := h
 obtain ⟨a, cap, rfl, hcs⟩ := hS.get
 have HCS : Hid (∀ j, j < l.length → ∃ b off va, a = some ⟨b, off, none⟩ ∧ b < w.heap.size ∧ w.cell? ⟨b, off + j * 2, none⟩ = some (.int .i64 (el l j).1) ∧ w.cell? ⟨b, off + j * 2 + 1, none⟩ = some va ∧ Arcs w va (el l j).2) := hcs
 have HAL : Hid (∀ j, j < l.length → (el l j).2.length * 32 ≤ 140737488351232) := hok.2
 have HAR : Hid (∀ j : Nat, ∀ b, b ∈ (el l j).2 → 0 ≤ b.1 ∧ 0 ≤ b.2.1 ∧ b.2.1 ≤ 1000 ∧ 0 ≤ b.2.2.1 ∧ b.2.2.1 ≤ 1000000000 ∧ 0 ≤ b.2.2.2 ∧ b.2.2.2 < l.length) := fun j b hb => by
  have := arcs_rng hf (q := (j : Int)) (a := b) (by simpa [arcS] using hb)
  exact this
 have HRN : Hid (∀ Tk (q : Nat), rndN (z, l) Tk (q + 1) = match Tk (q : Int) with | none => rndN (z, l) Tk q | some x => pshT (fun _ => none) x (putT (rndN (z, l) Tk q) (q : Int) x) (el l q).2) := fun Tk q => by
  rw [rndN_succ]
  unfold rndS
  simp [arcS]
  cases Tk (q : Int) <;> rfl
 have HR0 : Hid (∀ Tk, rndN (z, l) Tk 0 = fun _ => none) := fun Tk => rfl
 obtain ⟨al0, cl0, rfl⟩ := hML.sl
 have hln0 : ms0.length = l.length := hTR.1
 rw [hln0]
 clear hS hcs hok hML hTR hb hf
 simp only at h60 HBI HIS HI0 ⊢
 have HLN0 := hidP hln0
 clear hln0
 have HM0' : Hid (MarksX X w (.slice al0 l.length cl0) ms0) := by show MarksX _ _ _ _; rw [← HLN0.out]; exact HM0.out
 clear HM0
 generalize hn : l.length = n at *
 have HNN := hidP hn
 clear hn
 go_enter Try.func56, Try.ntmps56
 go_wp2
 go_loopw [1, 5] (fun s1 s5 wr => ∃ (k : Nat) (ms : List Mk), k ≤ n ∧ s5 = .int .i64 k ∧ Hid (MarksX X wr s1 ms) ∧ Hid (TRel n (itT (z, l) n T k) ms) ∧ Hid (Blk wr w.heap.size #[.int .i64 z, .slice a n cap] 24) ∧ w.heap.size + 1 ≤ wr.heap.size ∧ Hid (Below w.heap.size w wr)) (fun _ i _ => n - (intOf i).toNat)
 case atStart => exact ⟨0, ms0, Nat.zero_le _, rfl, HM0'.out.below ((Below.refl _ _).alloc (Nat.le_refl _) _), HI0, Blk.made w _ _, by simp, by show Below _ _ _; go_grown⟩
 case round =>
  clear HM0' HI0
  obtain ⟨k, ms, hk, rfl, hMs, hTR, bM, hsz, hbw⟩ := hrel
  rename_i s1
  obtain ⟨al, cl, hvl⟩ := hMs.out.sl
  rw [hTR.out.1] at hvl
  subst hvl
  by_cases hlt : k < n
  ·have hk0 : (0 : Int) ≤ (k : Int) := by omega
   have hk1 : (k : Int) < (n : Int) := by omega
   have HBk : Hid (BndT (A + 60000000000) (Bd + 60) (itT (z, l) n T k)) := fun p y hp => by have := HBI.out k p y hp; omega
   have HIk := hidP (HIS.out k)
   generalize itT (z, l) n T k = Tk at *
   obtain ⟨w0, hw0⟩ : ∃ w0, w0 = wr := ⟨_, rfl⟩
   subst hw0
   have hcl : ∀ j, j < ms.length → ∃ b off vo, al = some ⟨b, off, none⟩ ∧ b < w0.heap.size ∧ w0.cell? ⟨b, off + j * 3, none⟩ = some (.int .i64 (el ms j).1) ∧ w0.cell? ⟨b, off + j * 3 + 1, none⟩ = some (.int .i64 (el ms j).2.1) ∧ w0.cell? ⟨b, off + j * 3 + 2, none⟩ = some vo ∧ NumE X X w0 vo (el ms j).2.2 := fun j hj => hMs.out.get hj
   rw [hTR.out.1] at hcl
   have HCL := hidP hcl
   clear hcl hMs
   go_wp2_with (first
    | (go_at_call 32; (with_reducible refine (nobody_any X n _ (by omega)).mono ?_); rintro e w1 ⟨rfl, hT1, hb1⟩; have HT1 := hidP hT1; have HB1 := hidP hb1; have BM1 := hidP (bM.out.below hb1 bM.out.lt); clear hT1 hb1))
   go_loopw [7] (fun i7 wr => ∃ (q : Nat) (ms2 : List Mk), q ≤ n ∧ i7 = .int .i64 q ∧ Hid (TabM wr w0.heap.size X ms2) ∧ Hid (TRel n (rndN (z, l) Tk q) ms2) ∧ Hid (Blk wr w.heap.size #[.int .i64 z, .slice a n cap] 24) ∧ w0.heap.size < wr.heap.size ∧ Hid (Below w0.heap.size w0 wr)) (fun i7 _ => n - (intOf i7).toNat)
   case atStart => exact ⟨0, _, Nat.zero_le _, rfl, HT1, by rw [HR0.out]; exact TRel.nob n, BM1, HT1.out.lt, HB1⟩
   case round =>
    clear HT1 HB1 BM1
    obtain ⟨q, ms2, hq, rfl, hT, hN, bM2, hB2, hb2⟩ := hrel
    by_cases hqt : q < n
    ·have hq0 : (0 : Int) ≤ (q : Int) := by omega
     have hq1 : (q : Int) < (n : Int) := by omega
     obtain ⟨b, off, vo, rfl, hbl, g0, g1, g2, hno⟩ := HCL.out q hqt
     obtain ⟨ao, co, rfl⟩ := Row.sl hno.nums
     have g0 := (hb2.out.cell (p := ⟨b, off + q * 3, none⟩) hbl).trans g0
     have g1 := (hb2.out.cell (p := ⟨b, off + q * 3 + 1, none⟩) hbl).trans g1
     have g2 := (hb2.out.cell (p := ⟨b, off + q * 3 + 2, none⟩) hbl).trans g2
     have HNO := hidP hno
     have HHB := hidP hbl
     obtain ⟨an, cn, n0, n1, n2, hnn, f0, f1, f2⟩ := hT.out.get (j := q) (by rw [hN.out.1]; exact hqt)
     have HNE : Hid (NumE w0.heap.size X wr (.slice an (el ms2 q).2.2.length cn) (el ms2 q).2.2) := by
      obtain ⟨xs, x1, x2, x3⟩ := hT.out
      have hq9 : q < ms2.length := by rw [hN.out.1]; exact hqt
      have x4 := (x3 q hq9).2.2
      have x5 := flat_at encM_len xs q (by omega) 2 (by omega)
      have x6 := x1.cell (q * 3 + 2) (v := (el xs q).2.2) (by rw [List.getElem?_toArray, x5]; rfl)
      rw [n2] at x6
      simp only [Option.some.injEq] at x6
      rw [x6]; exact x4
     have HOE : Hid (NumE w0.heap.size X wr (.slice ao (el ms q).2.2.length co) (el ms q).2.2) := NumE.oldX HNO.out hb2.out (Nat.le_refl _)
     have hl8 : (el ms q).2.2.length ≤ 1000000 := (hTR.out.2 q hqt).2.2
     have HREL := hidP (hTR.out.2 q hqt)
     have HS : Held6 w0.heap.size (q * 3) b (off + q * 3) (.int .i64 (el ms2 q).1) (.int .i64 (el ms2 q).2.1) (.slice an (el ms2 q).2.2.length cn) (.int .i64 (el ms q).1) (.int .i64 (el ms q).2.1) (.slice ao (el ms q).2.2.length co) wr.drew := ⟨n0, n1, n2, g0, g1, g2⟩
     have zb : b < wr.heap.size := Nat.lt_of_lt_of_le hbl hb2.out.size
     have zB : w0.heap.size < wr.heap.size := hB2
     clear hno hbl hnn f0 f1 f2
     go_wp2
     refine region_anyL (Held6 w0.heap.size (q * 3) b (off + q * 3) (.int .i64 (el ms2 q).1) (.int .i64 (el ms2 q).2.1) (.slice an (el ms2 q).2.2.length cn) (.int .i64 (el ms q).1) (.int .i64 (el ms q).2.1) (.slice ao (el ms q).2.2.length co)) 12 (by kernel_rfl) ?_
     refine anyL_tk (i := 0) (v := ?v0_1) aZ0 (by kernel_rfl) ?y0_1 HS ?r0_1
     case y0_1 => intro wx hx; obtain ⟨h0, h1, h2, h3, h4, h5⟩ := hx; go_simp; try (with_reducible rfl)
     simp only [Act.put, List.setIfInBounds_toArray, List.set_cons_zero, List.set_cons_succ]
     refine anyL_tk (i := 1) (v := ?v1_2) aZ1 (by kernel_rfl) ?y1_2 HS ?r1_2
     case y1_2 => intro wx hx; obtain ⟨h0, h1, h2, h3, h4, h5⟩ := hx; go_simp; try (with_reducible rfl)
     simp only [Act.put, List.setIfInBounds_toArray, List.set_cons_zero, List.set_cons_succ]
     refine anyL_tk (i := 2) (v := ?v2_3) aZ2 (by kernel_rfl) ?y2_3 HS ?r2_3
     case y2_3 => intro wx hx; obtain ⟨h0, h1, h2, h3, h4, h5⟩ := hx; go_simp; try (with_reducible rfl)
     simp only [Act.put, List.setIfInBounds_toArray, List.set_cons_zero, List.set_cons_succ]
     refine anyL_tk (i := 3) (v := ?v3_4) aZ3 (by kernel_rfl) ?y3_4 HS ?r3_4
     case y3_4 => intro wx hx; obtain ⟨h0, h1, h2, h3, h4, h5⟩ := hx; go_simp; try (with_reducible rfl)
     simp only [Act.put, List.setIfInBounds_toArray, List.set_cons_zero, List.set_cons_succ]
     refine anyL_tk (i := 4) (v := ?v4_5) aZ4 (by kernel_rfl) ?y4_5 HS ?r4_5
     case y4_5 => intro wx hx; obtain ⟨h0, h1, h2, h3, h4, h5⟩ := hx; go_simp; try (with_reducible rfl)
     simp only [Act.put, List.setIfInBounds_toArray, List.set_cons_zero, List.set_cons_succ]
     refine anyL_tk (i := 5) (v := ?v5_6) aZ5 (by kernel_rfl) ?y5_6 HS ?r5_6
     case y5_6 => intro wx hx; obtain ⟨h0, h1, h2, h3, h4, h5⟩ := hx; go_simp; try (with_reducible rfl)
     simp only [Act.put, List.setIfInBounds_toArray, List.set_cons_zero, List.set_cons_succ]
     refine anyL_tk (i := 6) (v := ?v6_7) aZ6 (by kernel_rfl) ?y6_7 HS ?r6_7
     case y6_7 => intro wx hx; obtain ⟨h0, h1, h2, h3, h4, h5⟩ := hx; go_simp; try (with_reducible rfl)
     simp only [Act.put, List.setIfInBounds_toArray, List.set_cons_zero, List.set_cons_succ]
     refine anyL_tk (i := 7) (v := ?v7_8) aZ7 (by kernel_rfl) ?y7_8 HS ?r7_8
     case y7_8 => intro wx hx; obtain ⟨h0, h1, h2, h3, h4, h5⟩ := hx; go_simp; try (with_reducible rfl)
     simp only [Act.put, List.setIfInBounds_toArray, List.set_cons_zero, List.set_cons_succ]
     refine anyL_tk (i := 8) (v := ?v8_9) aZ8 (by kernel_rfl) ?y8_9 HS ?r8_9
     case y8_9 => intro wx hx; obtain ⟨h0, h1, h2, h3, h4, h5⟩ := hx; go_simp; try (with_reducible rfl)
     simp only [Act.put, List.setIfInBounds_toArray, List.set_cons_zero, List.set_cons_succ]
     refine anyL_tk (i := 9) (v := ?v9_10) aZ9 (by kernel_rfl) ?y9_10 HS ?r9_10
     case y9_10 => intro wx hx; obtain ⟨h0, h1, h2, h3, h4, h5⟩ := hx; go_simp; try (with_reducible rfl)
     simp only [Act.put, List.setIfInBounds_toArray, List.set_cons_zero, List.set_cons_succ]
     refine anyL_one (i := 10) aZ10 (by kernel_rfl) rfl (fun K hK => ?_)
     go_simp
     with_reducible refine (bestT_any w0.heap.size X (el ms2 q) (el ms q) _ _ _ _ _ (HNE.out.below ((Below.refl _ _).drew)) (HOE.out.below ((Below.refl _ _).drew)) hl8).mono ?_
     rintro e w4 ⟨a4, c4, rfl, hn4, hb4⟩
     have HB4 : Hid (Below wr.heap.size wr w4) := ((Below.refl _ _).drew).trans hb4
     have HN4 := hidP hn4
     have HT4 := hidP (hT.out.below HB4.out)
     have BM4 := hidP (bM2.out.below HB4.out bM2.out.lt)
     have HS4 : Held6 w0.heap.size (q * 3) b (off + q * 3) (.int .i64 (el ms2 q).1) (.int .i64 (el ms2 q).2.1) (.slice an (el ms2 q).2.2.length cn) (.int .i64 (el ms q).1) (.int .i64 (el ms q).2.1) (.slice ao (el ms q).2.2.length co) w4 := ⟨(HB4.out.cell (p := ⟨w0.heap.size, q * 3, none⟩) zB).trans n0, (HB4.out.cell (p := ⟨w0.heap.size, q * 3 + 1, none⟩) zB).trans n1, (HB4.out.cell (p := ⟨w0.heap.size, q * 3 + 2, none⟩) zB).trans n2, (HB4.out.cell (p := ⟨b, off + q * 3, none⟩) zb).trans g0, (HB4.out.cell (p := ⟨b, off + q * 3 + 1, none⟩) zb).trans g1, (HB4.out.cell (p := ⟨b, off + q * 3 + 2, none⟩) zb).trans g2⟩
     obtain ⟨an4, cn4, m0, m1, m2, _, f0, f1, f2⟩ := HT4.out.get (j := q) (by rw [hN.out.1]; exact hqt)
     have HT5 := hidP (HT4.out.put (j := q) (by rw [hN.out.1]; exact hqt) HN4.out)
     have HL5 : Hid ((bstM (el ms2 q) (el ms q)).2.2.length ≤ 1000000) := bstM_len (hN.out.2 q hqt).2.2 hl8
     have zB4 : w0.heap.size < w4.heap.size := HT4.out.lt
     clear hn4 hb4
     refine hK _ _ (.inr HS4) ?_
     try simp only [Act.put, List.setIfInBounds_toArray, List.set_cons_zero, List.set_cons_succ]
     refine anyL_one (i := 11) aZ11 (by kernel_rfl) rfl (fun K hK => ?_)
     go_simp
     refine hK _ _ (.inr HS4) ?_
     try simp only [Act.put, List.setIfInBounds_toArray, List.set_cons_zero, List.set_cons_succ]
     refine anyL_one (i := 12) aZ12 (by kernel_rfl) rfl (fun K hK => ?_)
     go_simp
     refine hK _ _ (.inl rfl) (anyL_done (by kernel_rfl) (NoPanic.normal ?_))
     try simp only [Act.put, List.setIfInBounds_toArray, List.set_cons_zero, List.set_cons_succ]
     have HB5 : Hid (Below w0.heap.size w0 (((w4.setCell ⟨w0.heap.size, q * 3, none⟩ (.int .i64 (bstM (el ms2 q) (el ms q)).1)).setCell ⟨w0.heap.size, q * 3 + 1, none⟩ (.int .i64 (bstM (el ms2 q) (el ms q)).2.1)).setCell ⟨w0.heap.size, q * 3 + 2, none⟩ (.slice a4 (bstM (el ms2 q) (el ms q)).2.2.length c4))) := by
      show Below _ _ _
      have h9 := hb2.out.trans (HB4.out.mono hb2.out.size)
      go_grown
     have BM5 : Hid (Blk (((w4.setCell ⟨w0.heap.size, q * 3, none⟩ (.int .i64 (bstM (el ms2 q) (el ms q)).1)).setCell ⟨w0.heap.size, q * 3 + 1, none⟩ (.int .i64 (bstM (el ms2 q) (el ms q)).2.1)).setCell ⟨w0.heap.size, q * 3 + 2, none⟩ (.slice a4 (bstM (el ms2 q) (el ms q)).2.2.length c4)) w.heap.size #[.int .i64 z, .slice a n cap] 24) := ((BM4.out.setO _ _ (by show w.heap.size ≠ w0.heap.size; omega)).setO _ _ (by show w.heap.size ≠ w0.heap.size; omega)).setO _ _ (by show w.heap.size ≠ w0.heap.size; omega)
     obtain ⟨w5, hw5⟩ : ∃ w5, w5 = (((w4.setCell ⟨w0.heap.size, q * 3, none⟩ (.int .i64 (bstM (el ms2 q) (el ms q)).1)).setCell ⟨w0.heap.size, q * 3 + 1, none⟩ (.int .i64 (bstM (el ms2 q) (el ms q)).2.1)).setCell ⟨w0.heap.size, q * 3 + 2, none⟩ (.slice a4 (bstM (el ms2 q) (el ms q)).2.2.length c4)) := ⟨_, rfl⟩
     rw [← hw5] at HT5 HB5 BM5 ⊢
     have zB5 : w0.heap.size < w5.heap.size := HT5.out.lt
     clear hw5 HS HS4 m0 m1 m2 f0 f1 f2 g0 g1 g2 n0 n1 n2 HN4 HNE HOE HT4 BM4 HB4
     have g0 : w5.cell? ⟨b, off + q * 3, none⟩ = some (.int .i64 (el ms q).1) := by
      have h9 := HCL.out q hqt
      obtain ⟨b', off', vo', e1, e2, e3, _⟩ := h9
      simp only [Option.some.injEq, Addr.mk.injEq] at e1
      obtain ⟨rfl, rfl, _⟩ := e1
      exact (HB5.out.cell (p := ⟨b, off + q * 3, none⟩) e2).trans e3
     have bM5c := BM5.out.cell 1 (v := .slice a n cap) rfl
     obtain ⟨sb, soff, va, rfl, hsb, _, s1c, hArc⟩ := HCS.out q hqt
     obtain ⟨aa, ca, rfl⟩ := hArc.sl
     have HBW5 : Hid (Below w.heap.size w w5) := hbw.out.trans (HB5.out.mono hbw.out.size)
     have HS1 := hidP s1c
     have s1c := (HBW5.out.cell (p := ⟨sb, soff + q * 2 + 1, none⟩) hsb).trans s1c
     have HARC := hidP hArc
     have HSB := hidP hsb
     have zsb : sb < w5.heap.size := Nat.lt_of_lt_of_le hsb HBW5.out.size
     clear hArc hsb
     rcases hTq : Tk (q : Int) with _ | x
     ·have hneg : (el ms q).1 < 0 := HREL.out.2.1 hTq
      have hneg' : ¬ (0 : Int) ≤ (el ms q).1 := by omega
      have HN5 : Hid (TRel n (rndN (z, l) Tk (q + 1)) (ms2.set q (bstM (el ms2 q) (el ms q)))) := by
       show TRel _ _ _
       rw [HRN.out Tk q, hTq]
       exact hN.out.non hqt hneg hl8
      clear hTq
      generalize (el l q).2.length = La at *
      by_cases hLa : 0 < La
      ·have hLa' : (0 : Int) < (La : Int) := by omega
       go_wp2
       refine wp_loop_rounds 1 ?_
       rw [rounds_succ]
       go_wp2
       go_roundw
       case rel => exact ⟨q + 1, _, by omega, by go_num, HT5, HN5, BM5, zB5, HB5⟩
       case measure => simp [intOf]; omega
      ·have hLa0 : La = 0 := by omega
       subst hLa0
       go_wp2
       refine wp_loop_rounds 1 ?_
       rw [rounds_succ]
       go_wp2
       go_roundw
       case rel => exact ⟨q + 1, _, by omega, by go_num, HT5, HN5, BM5, zB5, HB5⟩
       case measure => simp [intOf]; omega
     ·have hkq : el ms q = ((q : Int), x) := HREL.out.1 x hTq
      have hxb := HBk.out _ _ hTq
      have HN5 : Hid (TRel n (putT (rndN (z, l) Tk q) (q : Int) x) (ms2.set q (bstM (el ms2 q) ((q : Int), x)))) := hN.out.bst hqt (by rw [hkq] at hl8; exact hl8)
      have HNX : Hid (rndN (z, l) Tk (q + 1) = pshT (fun _ => none) x (putT (rndN (z, l) Tk q) (q : Int) x) (el l q).2) := by
       show _ = _
       rw [HRN.out Tk q, hTq]
      rw [hkq] at HT5 g0 HNO
      simp only at g0
      have hxb1 : 0 ≤ x.1 := hxb.1
      have hxb2 : x.1 ≤ 100000000000000 + 60000000000 := by have h9 := hxb.2.1; omega
      have hxb3 : x.2.length ≤ 100060 := by have h9 := hxb.2.2; omega
      have HAQ : Hid (∀ b, b ∈ (el l q).2 → 0 ≤ b.1 ∧ 0 ≤ b.2.1 ∧ b.2.1 ≤ 1000 ∧ 0 ≤ b.2.2.1 ∧ b.2.2.1 ≤ 1000000000 ∧ 0 ≤ b.2.2.2 ∧ b.2.2.2 < n) := fun b hb => by exact HAR.out q b hb
      have hLA : (el l q).2.length * 32 ≤ 140737488351232 := HAL.out q hqt
      have HTK : Hid ((el l q).2.take (el l q).2.length = (el l q).2) := List.take_length
      have HTK2 : Hid (∀ i, i < (el l q).2.length → ∀ O', pshT (fun _ => none) x O' ((el l q).2.take (i + 1)) = pshA (fun _ => none) x (pshT (fun _ => none) x O' ((el l q).2.take i)) (el (el l q).2 i)) := fun i hi O' => pshT_take hi
      have HEL : Hid (∀ i, i < (el l q).2.length → el (el l q).2 i ∈ (el l q).2) := fun i hi => el_mem hi
      have HPS0 : Hid (∀ O', pshT (fun _ => none) x O' ((el l q).2.take 0) = O') := fun O' => rfl
      obtain ⟨aa', ca', hva, hac⟩ := HARC.out.get
      simp only [Value.slice.injEq, true_and] at hva
      obtain ⟨rfl, rfl⟩ := hva
      have HAC := hidP hac
      clear hac hTq hxb hN hT hb2 HREL HBk bM2
      generalize putT (rndN (z, l) Tk q) (q : Int) x = N1 at *
      generalize (el l q).2 = la at *
      generalize hLa : la.length = La at *
      have HLA := hidP hLa
      clear hLa
      go_wp2
      go_loopw [8] (fun i8 wr => ∃ (i : Nat) (ms3 : List Mk), i ≤ La ∧ i8 = .int .i64 i ∧ Hid (TabM wr w0.heap.size X ms3) ∧ Hid (TRel n (pshT (fun _ => none) x N1 (la.take i)) ms3) ∧ Hid (Blk wr w.heap.size #[.int .i64 z, .slice (some ⟨sb, soff, none⟩) n cap] 24) ∧ w0.heap.size < wr.heap.size ∧ Hid (Below w0.heap.size w0 wr)) (fun i8 _ => La - (intOf i8).toNat)
      case atStart => exact ⟨0, _, Nat.zero_le _, rfl, HT5, by rw [HPS0.out]; exact HN5, BM5, zB5, HB5⟩
      case round =>
       clear HT5 HN5 BM5 HB5 g0 bM5c s1c HBW5 zsb
       obtain ⟨i, ms3, hi, rfl, hT3, hN3, bM3, hB3, hb3⟩ := hrel
       obtain ⟨b', off', vo', e1, e2, g0, g1, g2, hno⟩ := HCL.out q hqt
       simp only [Option.some.injEq, Addr.mk.injEq, and_true] at e1
       obtain ⟨rfl, rfl⟩ := e1
       obtain ⟨ao3, co3, rfl⟩ := Row.sl hno.nums
       have g0 := (hb3.out.cell (p := ⟨b, off + q * 3, none⟩) e2).trans g0
       have g1 := (hb3.out.cell (p := ⟨b, off + q * 3 + 1, none⟩) e2).trans g1
       have g2 := (hb3.out.cell (p := ⟨b, off + q * 3 + 2, none⟩) e2).trans g2
       rw [hkq] at g0 g1 g2 hno
       simp only at g0 g1 g2 hno
       have HNO3 := hidP hno
       have zb3 : b < wr.heap.size := Nat.lt_of_lt_of_le e2 hb3.out.size
       have HBW3 : Hid (Below w.heap.size w wr) := hbw.out.trans (hb3.out.mono hbw.out.size)
       have s1c := (HBW3.out.cell (p := ⟨sb, soff + q * 2 + 1, none⟩) HSB.out).trans HS1.out
       have zsb : sb < wr.heap.size := Nat.lt_of_lt_of_le HSB.out HBW3.out.size
       have bM3c := bM3.out.cell 1 (v := .slice (some ⟨sb, soff, none⟩) n cap) rfl
       clear hno e2
       by_cases hit : i < La
       ·have hi0 : (0 : Int) ≤ (i : Int) := by omega
        have hi1 : (i : Int) < (La : Int) := by omega
        obtain ⟨ab, aoff, rfl, hab, q0, q1, q2, q3⟩ := HAC.out i hit
        have q0 := (HBW3.out.cell (p := ⟨ab, aoff + i * 4, none⟩) hab).trans q0
        have q1 := (HBW3.out.cell (p := ⟨ab, aoff + i * 4 + 1, none⟩) hab).trans q1
        have q2 := (HBW3.out.cell (p := ⟨ab, aoff + i * 4 + 2, none⟩) hab).trans q2
        have q3 := (HBW3.out.cell (p := ⟨ab, aoff + i * 4 + 3, none⟩) hab).trans q3
        have zab : ab < wr.heap.size := Nat.lt_of_lt_of_le hab HBW3.out.size
        obtain ⟨p0, p1, p1b, p2, p3, p4, p5⟩ := HAQ.out _ (HEL.out i hit)
        have HT2 : Hid (pshT (fun _ => none) x N1 (la.take (i + 1)) = pshA (fun _ => none) x (pshT (fun _ => none) x N1 (la.take i)) (el la i)) := HTK2.out i hit N1
        have hab2 := hidP hab
        clear hab
        generalize pshT (fun _ => none) x N1 (la.take i) = Ni at *
        generalize el la i = b9 at *
        obtain ⟨b0, b1, b2, b3⟩ := b9
        simp only at q0 q1 q2 q3 p0 p1 p1b p2 p3 p4 p5
        obtain ⟨t, ht⟩ : ∃ t : Nat, b3 = (t : Int) := ⟨b3.toNat, by omega⟩
        subst ht
        have htn : t < n := by omega
        have hnn0 : (0 : Int) ≤ (t : Int) := by omega
        have hnn1 : (t : Int) < (n : Int) := by omega
        have hqq : (0 : Int) ≤ ((q : Int) : Int) := hq0
        by_cases hb0 : b0 = 0
        ·have HPA : Hid (pshA (fun _ => none) x Ni (b0, b1, b2, (t : Int)) = putT Ni (t : Int) (goA x (b0, b1, b2, (t : Int)))) := by show _ = _; unfold pshA; rw [if_pos ⟨rfl, hb0⟩]
         subst hb0
         rw [HPA.out] at HT2
         have HYL : Hid ((((t : Int), goA x (0, b1, b2, (t : Int))) : Mk).2.2.length ≤ 1000000) := by show _ ≤ _; have h9 := goA_len x (0, b1, b2, (t : Int)); simp only; omega
         have BA6 : Hid (Blk (wr.alloc (.cells #[.int .i64 0, .int .i64 b1, .int .i64 b2, .int .i64 (t : Int)] 75)) wr.heap.size #[.int .i64 0, .int .i64 b1, .int .i64 b2, .int .i64 (t : Int)] 75) := Blk.made wr _ _
         have HW6 : Hid (Below wr.heap.size wr (wr.alloc (.cells #[.int .i64 0, .int .i64 b1, .int .i64 b2, .int .i64 (t : Int)] 75))) := by show Below _ _ _; go_grown
         have HMV : Hid (MkIs (wr.alloc (.cells #[.int .i64 0, .int .i64 b1, .int .i64 b2, .int .i64 (t : Int)] 75)) (.agg #[.int .i64 (q : Int), .int .i64 x.1, .slice ao3 x.2.length co3]) ((q : Int), x)) := ⟨_, rfl, HNO3.out.nums.later (hb3.out.trans (HW6.out.mono hb3.out.size)) (Nat.le_refl _)⟩
         have hz6 : (wr.alloc (.cells #[.int .i64 0, .int .i64 b1, .int .i64 b2, .int .i64 (t : Int)] 75)).heap.size ≥ wr.heap.size + 1 := by simp
         go_wp2
         have HS6 : Held7 b (off + q * 3) wr.heap.size (.int .i64 (q : Int)) (.int .i64 x.1) (.slice ao3 x.2.length co3) (.int .i64 0) (.int .i64 b1) (.int .i64 b2) (.int .i64 (t : Int)) (wr.alloc (.cells #[.int .i64 0, .int .i64 b1, .int .i64 b2, .int .i64 (t : Int)] 75)).drew := ⟨(HW6.out.cell (p := ⟨b, off + q * 3, none⟩) zb3).trans g0, (HW6.out.cell (p := ⟨b, off + q * 3 + 1, none⟩) zb3).trans g1, (HW6.out.cell (p := ⟨b, off + q * 3 + 2, none⟩) zb3).trans g2, BA6.out.cell 0 rfl, BA6.out.cell 1 rfl, BA6.out.cell 2 rfl, BA6.out.cell 3 rfl⟩
         refine region_anyL (Held7 b (off + q * 3) wr.heap.size (.int .i64 (q : Int)) (.int .i64 x.1) (.slice ao3 x.2.length co3) (.int .i64 0) (.int .i64 b1) (.int .i64 b2) (.int .i64 (t : Int))) 7 (by kernel_rfl) ?_
         generalize (wr.alloc (.cells #[.int .i64 0, .int .i64 b1, .int .i64 b2, .int .i64 (t : Int)] 75)) = w6 at *
         refine anyL_tk (i := 0) (v := ?v0_11) aZ0 (by kernel_rfl) ?y0_11 HS6 ?r0_11
         case y0_11 => intro wx hx; obtain ⟨h0, h1, h2, h3, h4, h5, h6⟩ := hx; go_simp; try (with_reducible rfl)
         simp only [Act.put, List.setIfInBounds_toArray, List.set_cons_zero, List.set_cons_succ]
         refine anyL_tk (i := 1) (v := ?v1_12) aZ1 (by kernel_rfl) ?y1_12 HS6 ?r1_12
         case y1_12 => intro wx hx; obtain ⟨h0, h1, h2, h3, h4, h5, h6⟩ := hx; go_simp; try (with_reducible rfl)
         simp only [Act.put, List.setIfInBounds_toArray, List.set_cons_zero, List.set_cons_succ]
         refine anyL_tk (i := 2) (v := ?v2_13) aZ2 (by kernel_rfl) ?y2_13 HS6 ?r2_13
         case y2_13 => intro wx hx; obtain ⟨h0, h1, h2, h3, h4, h5, h6⟩ := hx; go_simp; try (with_reducible rfl)
         simp only [Act.put, List.setIfInBounds_toArray, List.set_cons_zero, List.set_cons_succ]
         refine anyL_tk (i := 3) (v := ?v3_14) aZ3 (by kernel_rfl) ?y3_14 HS6 ?r3_14
         case y3_14 => intro wx hx; obtain ⟨h0, h1, h2, h3, h4, h5, h6⟩ := hx; go_simp; try (with_reducible rfl)
         simp only [Act.put, List.setIfInBounds_toArray, List.set_cons_zero, List.set_cons_succ]
         refine anyL_tk (i := 4) (v := ?v4_15) aZ4 (by kernel_rfl) ?y4_15 HS6 ?r4_15
         case y4_15 => intro wx hx; obtain ⟨h0, h1, h2, h3, h4, h5, h6⟩ := hx; go_simp; try (with_reducible rfl)
         simp only [Act.put, List.setIfInBounds_toArray, List.set_cons_zero, List.set_cons_succ]
         refine anyL_br (rs := [5, 6]) (by kernel_rfl) (by simp) (List.forall_mem_cons.2 ⟨⟨_, aZ5, rfl, fun K hK => ?_⟩, List.forall_mem_cons.2 ⟨⟨_, aZ6, rfl, fun K hK => ?_⟩, by simp⟩⟩)
         ·go_simp
          with_reducible refine (moved_any _ ((q : Int), x) (0, b1, b2, (t : Int)) _ (HMV.out.later ((Below.refl _ _).drew) (Nat.le_refl _)) (by simp only; omega) (by simp only; omega) (by simp only; omega) (by simp only; omega) (by simp only; omega) (by simp only; omega)).mono ?_
          rintro e w8 ⟨v8, rfl, ho8, hb8⟩
          obtain ⟨av, cv, rfl⟩ := ho8.sl
          have HB8 : Hid (Below w6.heap.size w6 w8) := ((Below.refl _ _).drew).trans hb8
          have HO8 : Hid (OwnN w8 w6.heap.size (.slice av (goA x (0, b1, b2, (t : Int))).2.length cv) (goA x (0, b1, b2, (t : Int))).2) := ho8
          have HS8 : Held7 b (off + q * 3) wr.heap.size (.int .i64 (q : Int)) (.int .i64 x.1) (.slice ao3 x.2.length co3) (.int .i64 0) (.int .i64 b1) (.int .i64 b2) (.int .i64 (t : Int)) w8 := ⟨(HB8.out.cell (p := ⟨b, off + q * 3, none⟩) (by show b < _; omega)).trans HS6.1, (HB8.out.cell (p := ⟨b, off + q * 3 + 1, none⟩) (by show b < _; omega)).trans HS6.2.1, (HB8.out.cell (p := ⟨b, off + q * 3 + 2, none⟩) (by show b < _; omega)).trans HS6.2.2.1, (BA6.out.below HB8.out (by omega)).cell 0 rfl, (BA6.out.below HB8.out (by omega)).cell 1 rfl, (BA6.out.below HB8.out (by omega)).cell 2 rfl, (BA6.out.below HB8.out (by omega)).cell 3 rfl⟩
          have zz8 := HB8.out.size
          clear ho8 hb8
          refine hK _ _ (.inr HS8) ?_
          try simp only [Act.put, List.setIfInBounds_toArray, List.set_cons_zero, List.set_cons_succ]
          refine anyL_one (i := 6) aZ6 (by kernel_rfl) rfl (fun K hK => ?_)
          go_simp
          have hbA : Below w8.heap.size w8 (w8.alloc (.cells #[.int .i64 0, .int .i64 0, .slice none 0 0] 67)) := (Below.refl _ _).alloc (Nat.le_refl _) _
          refine hK _ _ (.inr ⟨low HS8.1 hbA, low HS8.2.1 hbA, low HS8.2.2.1 hbA, low HS8.2.2.2.1 hbA, low HS8.2.2.2.2.1 hbA, low HS8.2.2.2.2.2.1 hbA, low HS8.2.2.2.2.2.2 hbA⟩) ?_
          try simp only [Act.put, List.setIfInBounds_toArray, List.set_cons_zero, List.set_cons_succ]
          refine anyL_one (i := 7) aZ7 (by kernel_rfl) rfl (fun K hK => ?_)
          go_simp
          refine hK _ _ (.inl rfl) (anyL_done (by kernel_rfl) (NoPanic.normal ?_))
          try simp only [Act.put, List.setIfInBounds_toArray, List.set_cons_zero, List.set_cons_succ]
          obtain ⟨w9, hw9⟩ : ∃ w9, w9 = w8.alloc (.cells #[.int .i64 (t : Int), .int .i64 (goA x (0, b1, b2, (t : Int))).1, .slice av (goA x (0, b1, b2, (t : Int))).2.length cv] 67) := ⟨_, rfl⟩
          rw [← hw9]
          have HB96 : Hid (Below w6.heap.size w6 w9) := by rw [hw9]; exact HB8.out.trans (((Below.refl _ _).alloc (Nat.le_refl _) _).mono HB8.out.size)
          have HB9 : Hid (Below wr.heap.size wr w9) := HW6.out.trans (HB96.out.mono HW6.out.size)
          have HP9 : Hid (Blk w9 w8.heap.size #[.int .i64 (t : Int), .int .i64 (goA x (0, b1, b2, (t : Int))).1, .slice av (goA x (0, b1, b2, (t : Int))).2.length cv] 67) := by rw [hw9]; exact Blk.made _ _ _
          have HNV9 : Hid (NumE w0.heap.size X w9 (.slice av (goA x (0, b1, b2, (t : Int))).2.length cv) (goA x (0, b1, b2, (t : Int))).2) := by rw [hw9]; exact (NumE.own HO8.out (by omega) (by omega)).below ((Below.refl _ _).alloc (Nat.le_refl _) _)
          clear hw9 HO8 HS8 HS6 HMV
          generalize goA x (0, b1, b2, (t : Int)) = Y at *
          have HB9' : Hid (Below w0.heap.size w0 w9) := hb3.out.trans (HB9.out.mono hb3.out.size)
          have HT9 := hidP (hT3.out.below HB9.out)
          have BM9 := hidP (bM3.out.below HB9.out bM3.out.lt)
          have BA9 := hidP (BA6.out.below HB96.out BA6.out.lt)
          obtain ⟨at9, ct9, n0, n1, n2, hnn, _, _, _⟩ := HT9.out.get (j := t) (by rw [hN3.out.1]; exact htn)
          have HNE9 : Hid (NumE w0.heap.size X w9 (.slice at9 (el ms3 t).2.2.length ct9) (el ms3 t).2.2) := by
           obtain ⟨xs, x1, x2, x3⟩ := HT9.out
           have hq9 : t < ms3.length := by rw [hN3.out.1]; exact htn
           have x4 := (x3 t hq9).2.2
           have x5 := flat_at encM_len xs t (by omega) 2 (by omega)
           have x6 := x1.cell (t * 3 + 2) (v := (el xs t).2.2) (by rw [List.getElem?_toArray, x5]; rfl)
           rw [n2] at x6
           simp only [Option.some.injEq] at x6
           rw [x6]; exact x4
          have HS9 : Held8 w0.heap.size (t * 3) wr.heap.size w8.heap.size (.int .i64 (el ms3 t).1) (.int .i64 (el ms3 t).2.1) (.slice at9 (el ms3 t).2.2.length ct9) (.int .i64 (t : Int)) (.int .i64 (t : Int)) (.int .i64 Y.1) (.slice av Y.2.length cv) w9.drew := ⟨n0, n1, n2, BA9.out.cell 3 rfl, HP9.out.cell 0 rfl, HP9.out.cell 1 rfl, HP9.out.cell 2 rfl⟩
          have zB9 : w0.heap.size < w9.heap.size := HT9.out.lt
          clear hnn n0 n1 n2
          go_wp2
          refine region_anyL (Held8 w0.heap.size (t * 3) wr.heap.size w8.heap.size (.int .i64 (el ms3 t).1) (.int .i64 (el ms3 t).2.1) (.slice at9 (el ms3 t).2.2.length ct9) (.int .i64 (t : Int)) (.int .i64 (t : Int)) (.int .i64 Y.1) (.slice av Y.2.length cv)) 11 (by kernel_rfl) ?_
          refine anyL_tk (i := 0) (v := ?v0_16) aZ0 (by kernel_rfl) ?y0_16 HS9 ?r0_16
          case y0_16 => intro wx hx; obtain ⟨h0, h1, h2, h3, h4, h5, h6⟩ := hx; go_simp; try (with_reducible rfl)
          simp only [Act.put, List.setIfInBounds_toArray, List.set_cons_zero, List.set_cons_succ]
          refine anyL_tk (i := 1) (v := ?v1_17) aZ1 (by kernel_rfl) ?y1_17 HS9 ?r1_17
          case y1_17 => intro wx hx; obtain ⟨h0, h1, h2, h3, h4, h5, h6⟩ := hx; go_simp; try (with_reducible rfl)
          simp only [Act.put, List.setIfInBounds_toArray, List.set_cons_zero, List.set_cons_succ]
          refine anyL_tk (i := 2) (v := ?v2_18) aZ2 (by kernel_rfl) ?y2_18 HS9 ?r2_18
          case y2_18 => intro wx hx; obtain ⟨h0, h1, h2, h3, h4, h5, h6⟩ := hx; go_simp; try (with_reducible rfl)
          simp only [Act.put, List.setIfInBounds_toArray, List.set_cons_zero, List.set_cons_succ]
          refine anyL_tk (i := 3) (v := ?v3_19) aZ3 (by kernel_rfl) ?y3_19 HS9 ?r3_19
          case y3_19 => intro wx hx; obtain ⟨h0, h1, h2, h3, h4, h5, h6⟩ := hx; go_simp; try (with_reducible rfl)
          simp only [Act.put, List.setIfInBounds_toArray, List.set_cons_zero, List.set_cons_succ]
          refine anyL_tk (i := 4) (v := ?v4_20) aZ4 (by kernel_rfl) ?y4_20 HS9 ?r4_20
          case y4_20 => intro wx hx; obtain ⟨h0, h1, h2, h3, h4, h5, h6⟩ := hx; go_simp; try (with_reducible rfl)
          simp only [Act.put, List.setIfInBounds_toArray, List.set_cons_zero, List.set_cons_succ]
          refine anyL_tk (i := 5) (v := ?v5_21) aZ5 (by kernel_rfl) ?y5_21 HS9 ?r5_21
          case y5_21 => intro wx hx; obtain ⟨h0, h1, h2, h3, h4, h5, h6⟩ := hx; go_simp; try (with_reducible rfl)
          simp only [Act.put, List.setIfInBounds_toArray, List.set_cons_zero, List.set_cons_succ]
          refine anyL_tk (i := 6) (v := ?v6_22) aZ6 (by kernel_rfl) ?y6_22 HS9 ?r6_22
          case y6_22 => intro wx hx; obtain ⟨h0, h1, h2, h3, h4, h5, h6⟩ := hx; go_simp; try (with_reducible rfl)
          simp only [Act.put, List.setIfInBounds_toArray, List.set_cons_zero, List.set_cons_succ]
          refine anyL_tk (i := 7) (v := ?v7_23) aZ7 (by kernel_rfl) ?y7_23 HS9 ?r7_23
          case y7_23 => intro wx hx; obtain ⟨h0, h1, h2, h3, h4, h5, h6⟩ := hx; go_simp; try (with_reducible rfl)
          simp only [Act.put, List.setIfInBounds_toArray, List.set_cons_zero, List.set_cons_succ]
          refine anyL_tk (i := 8) (v := ?v8_24) aZ8 (by kernel_rfl) ?y8_24 HS9 ?r8_24
          case y8_24 => intro wx hx; obtain ⟨h0, h1, h2, h3, h4, h5, h6⟩ := hx; go_simp; try (with_reducible rfl)
          simp only [Act.put, List.setIfInBounds_toArray, List.set_cons_zero, List.set_cons_succ]
          refine anyL_one (i := 9) aZ9 (by kernel_rfl) rfl (fun K hK => ?_)
          go_simp
          with_reducible refine (bestT_any w0.heap.size X (el ms3 t) ((t : Int), Y) _ _ _ _ _ (HNE9.out.below ((Below.refl _ _).drew)) (HNV9.out.below ((Below.refl _ _).drew)) HYL.out).mono ?_
          rintro e wa ⟨aa9, ca9, rfl, hna, hba⟩
          have HBA : Hid (Below w9.heap.size w9 wa) := ((Below.refl _ _).drew).trans hba
          have HNA := hidP hna
          have HTA := hidP (HT9.out.below HBA.out)
          have BMA := hidP (BM9.out.below HBA.out BM9.out.lt)
          obtain ⟨an4, cn4, m0, m1, m2, _, f0, f1, f2⟩ := HTA.out.get (j := t) (by rw [hN3.out.1]; exact htn)
          have BPA := hidP (HP9.out.below HBA.out HP9.out.lt)
          have BAA := hidP (BA9.out.below HBA.out BA9.out.lt)
          have HSA : Held8 w0.heap.size (t * 3) wr.heap.size w8.heap.size (.int .i64 (el ms3 t).1) (.int .i64 (el ms3 t).2.1) (.slice an4 (el ms3 t).2.2.length cn4) (.int .i64 (t : Int)) (.int .i64 (t : Int)) (.int .i64 Y.1) (.slice av Y.2.length cv) wa := ⟨m0, m1, m2, BAA.out.cell 3 rfl, BPA.out.cell 0 rfl, BPA.out.cell 1 rfl, BPA.out.cell 2 rfl⟩
          have HSA' : Held8 w0.heap.size (t * 3) wr.heap.size w8.heap.size (.int .i64 (el ms3 t).1) (.int .i64 (el ms3 t).2.1) (.slice at9 (el ms3 t).2.2.length ct9) (.int .i64 (t : Int)) (.int .i64 (t : Int)) (.int .i64 Y.1) (.slice av Y.2.length cv) wa := ⟨m0, m1, by have h9 := (HBA.out.cell (p := ⟨w0.heap.size, t * 3 + 2, none⟩) zB9).trans HS9.2.2.1; exact h9, BAA.out.cell 3 rfl, BPA.out.cell 0 rfl, BPA.out.cell 1 rfl, BPA.out.cell 2 rfl⟩
          have HT10 := hidP (HTA.out.put (j := t) (by rw [hN3.out.1]; exact htn) HNA.out)
          have HR10 : Hid (TRel n (pshT (fun _ => none) x N1 (la.take (i + 1))) (ms3.set t (bstM (el ms3 t) ((t : Int), Y)))) := by
           show TRel _ _ _
           rw [HT2.out]
           exact hN3.out.bst htn HYL.out
          have zA : w0.heap.size < wa.heap.size := HTA.out.lt
          clear hna hba HSA
          refine hK _ _ (.inr HSA') ?_
          try simp only [Act.put, List.setIfInBounds_toArray, List.set_cons_zero, List.set_cons_succ]
          refine anyL_one (i := 10) aZ10 (by kernel_rfl) rfl (fun K hK => ?_)
          go_simp
          refine hK _ _ (.inr HSA') ?_
          try simp only [Act.put, List.setIfInBounds_toArray, List.set_cons_zero, List.set_cons_succ]
          refine anyL_one (i := 11) aZ11 (by kernel_rfl) rfl (fun K hK => ?_)
          go_simp
          refine hK _ _ (.inl rfl) (anyL_done (by kernel_rfl) (NoPanic.normal ?_))
          try simp only [Act.put, List.setIfInBounds_toArray, List.set_cons_zero, List.set_cons_succ]
          clear HS9 HSA' m0 m1 m2 f0 f1 f2
          go_wp2
          go_roundw
          case rel => exact ⟨i + 1, _, by omega, by go_num, HT10, HR10, ((BMA.out.setO _ _ (by show w.heap.size ≠ w0.heap.size; omega)).setO _ _ (by show w.heap.size ≠ w0.heap.size; omega)).setO _ _ (by show w.heap.size ≠ w0.heap.size; omega), by simp; omega, by show Below _ _ _; have h9 := HB9'.out.trans (HBA.out.mono HB9'.out.size); go_grown⟩
          case measure => simp [intOf]; omega
         ·have hbA : Below w6.heap.size w6 (w6.alloc (.cells #[.int .i64 0, .int .i64 0, .slice none 0 0] 67)).drew := ((Below.refl w6.heap.size w6).alloc (Nat.le_refl _) _).drew
          have HBA6 := hidP hbA
          have hbD : Below w6.drew.heap.size w6.drew (w6.drew.alloc (.cells #[.int .i64 0, .int .i64 0, .slice none 0 0] 67)) := (Below.refl _ _).alloc (Nat.le_refl _) _
          have hbS := hbA
          go_simp
          refine hK _ _ (.inr ⟨low HS6.1 hbD, low HS6.2.1 hbD, low HS6.2.2.1 hbD, low HS6.2.2.2.1 hbD, low HS6.2.2.2.2.1 hbD, low HS6.2.2.2.2.2.1 hbD, low HS6.2.2.2.2.2.2 hbD⟩) ?_
          try simp only [Act.put, List.setIfInBounds_toArray, List.set_cons_zero, List.set_cons_succ]
          refine anyL_one (i := 5) aZ5 (by kernel_rfl) rfl (fun K hK => ?_)
          go_simp
          with_reducible refine (moved_any _ ((q : Int), x) (0, b1, b2, (t : Int)) _ (HMV.out.later HBA6.out (Nat.le_refl _)) (by simp only; omega) (by simp only; omega) (by simp only; omega) (by simp only; omega) (by simp only; omega) (by simp only; omega)).mono ?_
          rintro e w8 ⟨v8, rfl, ho8, hb8⟩
          obtain ⟨av, cv, rfl⟩ := ho8.sl
          have hzB : (w6.alloc (.cells #[.int .i64 0, .int .i64 0, .slice none 0 0] 67)).drew.heap.size = w6.heap.size + 1 := by simp
          rw [hzB] at ho8
          have HO8 : Hid (OwnN w8 (w6.heap.size + 1) (.slice av (goA x (0, b1, b2, (t : Int))).2.length cv) (goA x (0, b1, b2, (t : Int))).2) := ho8
          have HZ8 : Hid (Blk w8 w6.heap.size #[.int .i64 0, .int .i64 0, .slice none 0 0] 67) := ((Blk.made w6 _ _).drew).below hb8 (by simp)
          have HB8 : Hid (Below w6.heap.size w6 w8) := HBA6.out.trans (hb8.mono HBA6.out.size)
          have HS8 : Held7 b (off + q * 3) wr.heap.size (.int .i64 (q : Int)) (.int .i64 x.1) (.slice ao3 x.2.length co3) (.int .i64 0) (.int .i64 b1) (.int .i64 b2) (.int .i64 (t : Int)) w8 := ⟨(HB8.out.cell (p := ⟨b, off + q * 3, none⟩) (by show b < _; omega)).trans HS6.1, (HB8.out.cell (p := ⟨b, off + q * 3 + 1, none⟩) (by show b < _; omega)).trans HS6.2.1, (HB8.out.cell (p := ⟨b, off + q * 3 + 2, none⟩) (by show b < _; omega)).trans HS6.2.2.1, (BA6.out.below HB8.out (by omega)).cell 0 rfl, (BA6.out.below HB8.out (by omega)).cell 1 rfl, (BA6.out.below HB8.out (by omega)).cell 2 rfl, (BA6.out.below HB8.out (by omega)).cell 3 rfl⟩
          have u0 := HZ8.out.cell 0 (v := .int .i64 0) rfl
          have u1 := HZ8.out.cell 1 (v := .int .i64 0) rfl
          have u2 := HZ8.out.cell 2 (v := .slice none 0 0) rfl
          have t0 := HZ8.out.fz 0
          have t1 := HZ8.out.fz 1
          have t2 := HZ8.out.fz 2
          have zz8 := HZ8.out.lt
          clear ho8 hb8 hbA hbS hbD
          refine hK _ _ (.inr HS8) ?_
          try simp only [Act.put, List.setIfInBounds_toArray, List.set_cons_zero, List.set_cons_succ]
          refine anyL_one (i := 7) aZ7 (by kernel_rfl) rfl (fun K hK => ?_)
          go_simp
          refine hK _ _ (.inl rfl) (anyL_done (by kernel_rfl) (NoPanic.normal ?_))
          try simp only [Act.put, List.setIfInBounds_toArray, List.set_cons_zero, List.set_cons_succ]
          obtain ⟨w9, hw9⟩ : ∃ w9, w9 = (((w8.setCell ⟨w6.heap.size, 0, none⟩ (.int .i64 (t : Int))).setCell ⟨w6.heap.size, 1, none⟩ (.int .i64 (goA x (0, b1, b2, (t : Int))).1)).setCell ⟨w6.heap.size, 2, none⟩ (.slice av (goA x (0, b1, b2, (t : Int))).2.length cv)) := ⟨_, rfl⟩
          rw [← hw9]
          have HB96 : Hid (Below w6.heap.size w6 w9) := by
           rw [hw9]
           show Below _ _ _
           have h9 := HB8.out
           go_grown
          have HB9 : Hid (Below wr.heap.size wr w9) := HW6.out.trans (HB96.out.mono HW6.out.size)
          have HP9 : Hid (Blk w9 w6.heap.size #[.int .i64 (t : Int), .int .i64 (goA x (0, b1, b2, (t : Int))).1, .slice av (goA x (0, b1, b2, (t : Int))).2.length cv] 67) := by rw [hw9]; exact ((HZ8.out.set 0 _).set 1 _).set 2 _
          have HNV9 : Hid (NumE w0.heap.size X w9 (.slice av (goA x (0, b1, b2, (t : Int))).2.length cv) (goA x (0, b1, b2, (t : Int))).2) := by rw [hw9]; exact NumE.own (((HO8.out.set (by show w6.heap.size < _; omega) _).set (by show w6.heap.size < _; omega) _).set (by show w6.heap.size < _; omega) _) (by omega) (by omega)
          clear hw9 HO8 HS8 HS6 HMV u0 u1 u2 t0 t1 t2
          generalize goA x (0, b1, b2, (t : Int)) = Y at *
          have HB9' : Hid (Below w0.heap.size w0 w9) := hb3.out.trans (HB9.out.mono hb3.out.size)
          have HT9 := hidP (hT3.out.below HB9.out)
          have BM9 := hidP (bM3.out.below HB9.out bM3.out.lt)
          have BA9 := hidP (BA6.out.below HB96.out BA6.out.lt)
          obtain ⟨at9, ct9, n0, n1, n2, hnn, _, _, _⟩ := HT9.out.get (j := t) (by rw [hN3.out.1]; exact htn)
          have HNE9 : Hid (NumE w0.heap.size X w9 (.slice at9 (el ms3 t).2.2.length ct9) (el ms3 t).2.2) := by
           obtain ⟨xs, x1, x2, x3⟩ := HT9.out
           have hq9 : t < ms3.length := by rw [hN3.out.1]; exact htn
           have x4 := (x3 t hq9).2.2
           have x5 := flat_at encM_len xs t (by omega) 2 (by omega)
           have x6 := x1.cell (t * 3 + 2) (v := (el xs t).2.2) (by rw [List.getElem?_toArray, x5]; rfl)
           rw [n2] at x6
           simp only [Option.some.injEq] at x6
           rw [x6]; exact x4
          have HS9 : Held8 w0.heap.size (t * 3) wr.heap.size w6.heap.size (.int .i64 (el ms3 t).1) (.int .i64 (el ms3 t).2.1) (.slice at9 (el ms3 t).2.2.length ct9) (.int .i64 (t : Int)) (.int .i64 (t : Int)) (.int .i64 Y.1) (.slice av Y.2.length cv) w9.drew := ⟨n0, n1, n2, BA9.out.cell 3 rfl, HP9.out.cell 0 rfl, HP9.out.cell 1 rfl, HP9.out.cell 2 rfl⟩
          have zB9 : w0.heap.size < w9.heap.size := HT9.out.lt
          clear hnn n0 n1 n2
          go_wp2
          refine region_anyL (Held8 w0.heap.size (t * 3) wr.heap.size w6.heap.size (.int .i64 (el ms3 t).1) (.int .i64 (el ms3 t).2.1) (.slice at9 (el ms3 t).2.2.length ct9) (.int .i64 (t : Int)) (.int .i64 (t : Int)) (.int .i64 Y.1) (.slice av Y.2.length cv)) 11 (by kernel_rfl) ?_
          refine anyL_tk (i := 0) (v := ?v0_25) aZ0 (by kernel_rfl) ?y0_25 HS9 ?r0_25
          case y0_25 => intro wx hx; obtain ⟨h0, h1, h2, h3, h4, h5, h6⟩ := hx; go_simp; try (with_reducible rfl)
          simp only [Act.put, List.setIfInBounds_toArray, List.set_cons_zero, List.set_cons_succ]
          refine anyL_tk (i := 1) (v := ?v1_26) aZ1 (by kernel_rfl) ?y1_26 HS9 ?r1_26
          case y1_26 => intro wx hx; obtain ⟨h0, h1, h2, h3, h4, h5, h6⟩ := hx; go_simp; try (with_reducible rfl)
          simp only [Act.put, List.setIfInBounds_toArray, List.set_cons_zero, List.set_cons_succ]
          refine anyL_tk (i := 2) (v := ?v2_27) aZ2 (by kernel_rfl) ?y2_27 HS9 ?r2_27
          case y2_27 => intro wx hx; obtain ⟨h0, h1, h2, h3, h4, h5, h6⟩ := hx; go_simp; try (with_reducible rfl)
          simp only [Act.put, List.setIfInBounds_toArray, List.set_cons_zero, List.set_cons_succ]
          refine anyL_tk (i := 3) (v := ?v3_28) aZ3 (by kernel_rfl) ?y3_28 HS9 ?r3_28
          case y3_28 => intro wx hx; obtain ⟨h0, h1, h2, h3, h4, h5, h6⟩ := hx; go_simp; try (with_reducible rfl)
          simp only [Act.put, List.setIfInBounds_toArray, List.set_cons_zero, List.set_cons_succ]
          refine anyL_tk (i := 4) (v := ?v4_29) aZ4 (by kernel_rfl) ?y4_29 HS9 ?r4_29
          case y4_29 => intro wx hx; obtain ⟨h0, h1, h2, h3, h4, h5, h6⟩ := hx; go_simp; try (with_reducible rfl)
          simp only [Act.put, List.setIfInBounds_toArray, List.set_cons_zero, List.set_cons_succ]
          refine anyL_tk (i := 5) (v := ?v5_30) aZ5 (by kernel_rfl) ?y5_30 HS9 ?r5_30
          case y5_30 => intro wx hx; obtain ⟨h0, h1, h2, h3, h4, h5, h6⟩ := hx; go_simp; try (with_reducible rfl)
          simp only [Act.put, List.setIfInBounds_toArray, List.set_cons_zero, List.set_cons_succ]
          refine anyL_tk (i := 6) (v := ?v6_31) aZ6 (by kernel_rfl) ?y6_31 HS9 ?r6_31
          case y6_31 => intro wx hx; obtain ⟨h0, h1, h2, h3, h4, h5, h6⟩ := hx; go_simp; try (with_reducible rfl)
          simp only [Act.put, List.setIfInBounds_toArray, List.set_cons_zero, List.set_cons_succ]
          refine anyL_tk (i := 7) (v := ?v7_32) aZ7 (by kernel_rfl) ?y7_32 HS9 ?r7_32
          case y7_32 => intro wx hx; obtain ⟨h0, h1, h2, h3, h4, h5, h6⟩ := hx; go_simp; try (with_reducible rfl)
          simp only [Act.put, List.setIfInBounds_toArray, List.set_cons_zero, List.set_cons_succ]
          refine anyL_tk (i := 8) (v := ?v8_33) aZ8 (by kernel_rfl) ?y8_33 HS9 ?r8_33
          case y8_33 => intro wx hx; obtain ⟨h0, h1, h2, h3, h4, h5, h6⟩ := hx; go_simp; try (with_reducible rfl)
          simp only [Act.put, List.setIfInBounds_toArray, List.set_cons_zero, List.set_cons_succ]
          refine anyL_one (i := 9) aZ9 (by kernel_rfl) rfl (fun K hK => ?_)
          go_simp
          with_reducible refine (bestT_any w0.heap.size X (el ms3 t) ((t : Int), Y) _ _ _ _ _ (HNE9.out.below ((Below.refl _ _).drew)) (HNV9.out.below ((Below.refl _ _).drew)) HYL.out).mono ?_
          rintro e wa ⟨aa9, ca9, rfl, hna, hba⟩
          have HBA : Hid (Below w9.heap.size w9 wa) := ((Below.refl _ _).drew).trans hba
          have HNA := hidP hna
          have HTA := hidP (HT9.out.below HBA.out)
          have BMA := hidP (BM9.out.below HBA.out BM9.out.lt)
          obtain ⟨an4, cn4, m0, m1, m2, _, f0, f1, f2⟩ := HTA.out.get (j := t) (by rw [hN3.out.1]; exact htn)
          have BPA := hidP (HP9.out.below HBA.out HP9.out.lt)
          have BAA := hidP (BA9.out.below HBA.out BA9.out.lt)
          have HSA : Held8 w0.heap.size (t * 3) wr.heap.size w6.heap.size (.int .i64 (el ms3 t).1) (.int .i64 (el ms3 t).2.1) (.slice an4 (el ms3 t).2.2.length cn4) (.int .i64 (t : Int)) (.int .i64 (t : Int)) (.int .i64 Y.1) (.slice av Y.2.length cv) wa := ⟨m0, m1, m2, BAA.out.cell 3 rfl, BPA.out.cell 0 rfl, BPA.out.cell 1 rfl, BPA.out.cell 2 rfl⟩
          have HSA' : Held8 w0.heap.size (t * 3) wr.heap.size w6.heap.size (.int .i64 (el ms3 t).1) (.int .i64 (el ms3 t).2.1) (.slice at9 (el ms3 t).2.2.length ct9) (.int .i64 (t : Int)) (.int .i64 (t : Int)) (.int .i64 Y.1) (.slice av Y.2.length cv) wa := ⟨m0, m1, by have h9 := (HBA.out.cell (p := ⟨w0.heap.size, t * 3 + 2, none⟩) zB9).trans HS9.2.2.1; exact h9, BAA.out.cell 3 rfl, BPA.out.cell 0 rfl, BPA.out.cell 1 rfl, BPA.out.cell 2 rfl⟩
          have HT10 := hidP (HTA.out.put (j := t) (by rw [hN3.out.1]; exact htn) HNA.out)
          have HR10 : Hid (TRel n (pshT (fun _ => none) x N1 (la.take (i + 1))) (ms3.set t (bstM (el ms3 t) ((t : Int), Y)))) := by
           show TRel _ _ _
           rw [HT2.out]
           exact hN3.out.bst htn HYL.out
          have zA : w0.heap.size < wa.heap.size := HTA.out.lt
          clear hna hba HSA
          refine hK _ _ (.inr HSA') ?_
          try simp only [Act.put, List.setIfInBounds_toArray, List.set_cons_zero, List.set_cons_succ]
          refine anyL_one (i := 10) aZ10 (by kernel_rfl) rfl (fun K hK => ?_)
          go_simp
          refine hK _ _ (.inr HSA') ?_
          try simp only [Act.put, List.setIfInBounds_toArray, List.set_cons_zero, List.set_cons_succ]
          refine anyL_one (i := 11) aZ11 (by kernel_rfl) rfl (fun K hK => ?_)
          go_simp
          refine hK _ _ (.inl rfl) (anyL_done (by kernel_rfl) (NoPanic.normal ?_))
          try simp only [Act.put, List.setIfInBounds_toArray, List.set_cons_zero, List.set_cons_succ]
          clear HS9 HSA' m0 m1 m2 f0 f1 f2
          go_wp2
          go_roundw
          case rel => exact ⟨i + 1, _, by omega, by go_num, HT10, HR10, ((BMA.out.setO _ _ (by show w.heap.size ≠ w0.heap.size; omega)).setO _ _ (by show w.heap.size ≠ w0.heap.size; omega)).setO _ _ (by show w.heap.size ≠ w0.heap.size; omega), by simp; omega, by show Below _ _ _; have h9 := HB9'.out.trans (HBA.out.mono HB9'.out.size); go_grown⟩
          case measure => simp [intOf]; omega
        ·have HPA : Hid (pshA (fun _ => none) x Ni (b0, b1, b2, (t : Int)) = Ni) := by show _ = _; unfold pshA; rw [if_neg (fun h => hb0 h.2)]
         have HW6 : Hid (Below wr.heap.size wr (wr.alloc (.cells #[.int .i64 b0, .int .i64 b1, .int .i64 b2, .int .i64 (t : Int)] 75))) := by show Below _ _ _; go_grown
         go_wp2
         go_roundw
         case rel => exact ⟨i + 1, ms3, by omega, by go_num, hT3.out.below HW6.out, by rw [HT2.out, HPA.out]; exact hN3.out, bM3.out.below HW6.out bM3.out.lt, by simp; omega, hb3.out.trans (HW6.out.mono hb3.out.size)⟩
         case measure => simp [intOf]; omega
       ·have hil : i = La := by omega
        have hnl : ¬ (i : Int) < (La : Int) := by omega
        have HNE9 : Hid (TRel n (rndN (z, l) Tk (q + 1)) ms3) := by
         show TRel _ _ _
         have h := hN3.out
         rw [hil, HTK.out, ← HNX.out] at h
         exact h
        go_wp2
        go_roundw
        case rel => exact ⟨q + 1, _, by omega, by go_num, hT3, HNE9, bM3, hB3, hb3⟩
        case measure => simp [intOf]; omega
    ·have hnq : ¬ (q : Int) < (n : Int) := by omega
     have hqn : q = n := by omega
     have HNX2 : Hid (TRel n (itT (z, l) n T (k + 1)) ms2) := by
      show TRel _ _ _
      rw [HIk.out]
      have h := hN.out
      rw [hqn] at h
      exact h
     have HMS2 : Hid (MarksX X wr (.slice (some ⟨w0.heap.size, 0, none⟩) n n) ms2) := by
      have h := hT.out.marksX (by omega)
      rw [hN.out.1] at h
      exact h
     go_wp2
     go_roundw
     case rel => exact ⟨k + 1, ms2, by omega, by go_num, HMS2, HNX2, bM2, by have h9 := hb2.out.size; omega, hbw.out.trans (hb2.out.mono hbw.out.size)⟩
     case measure => simp [intOf]; omega
  ·have hnl : ¬ (k : Int) < (n : Int) := by omega
   have hkn : k = n := by omega
   have HRR : Hid (TRel n (itT (z, l) n T n) ms) := by
    show TRel _ _ _
    have h := hTR.out
    rw [hkn] at h
    exact h
   go_wp2
   go_ret
   exact ⟨_, rfl, ms, hMs.out, HRR.out, hbw.out⟩
end Go.Proofs.Ytkeeiihaijhdoaa.Sm
