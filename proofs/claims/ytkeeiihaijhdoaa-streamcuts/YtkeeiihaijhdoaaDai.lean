/- Marks behind a label (the program's). -/
import Derived.Test.YtkeeiihaijhdoaaDah
import Derived.Test.YtkeeiihaijhdoaaDaf
import Derived.Test.YtkeeiihaijhdoaaDab
import Derived.Laws.MakeOwn
import Derived.Test.YtkeeiihaijhdoaaDae
namespace Go.Proofs.Ytkeeiihaijhdoaa.Sm
open Go.ChangeShapes Go.WideShapes Go.ChangeAt Go.RowKit Go.Maps
open Go.Proofs.Ytkeeiihaijhdoaa.Pl Go.Proofs.Ytkeeiihaijhdoaa.Wt
set_option linter.unusedVariables false
set_option linter.unusedSimpArgs false
def StpF (m : Mc) (K : Tbl) (l : Int) (left : Lit → Bool) (p : Int) (y : Ky) : Prop := ∃ q x a, K q = some x ∧ left (.int .i64 q) = false ∧ a ∈ arcS m q ∧ a.1 = l ∧ p = a.2.2.2 ∧ y = goA x a
def StpI (S : Int → Ky → Prop) (x : Ky) (l : Int) (la : List Ar) (p : Int) (y : Ky) : Prop := S p y ∨ ∃ a ∈ la, a.1 = l ∧ p = a.2.2.2 ∧ y = goA x a
theorem stpI_snoc {S : Int → Ky → Prop} {x : Ky} {l : Int} {la : List Ar} {a : Ar} {O : Tbl} (h : MinT (StpI S x l la) O) : MinT (StpI S x l (la ++ [a])) (if a.1 = l then putT O a.2.2.2 (goA x a) else O) := by
 by_cases e : a.1 = l
 ·rw [if_pos e]
  refine (h.put a.2.2.2 (goA x a)).same fun p y => ?_
  unfold StpI
  constructor
  ·rintro ((h | ⟨b, hb, h1⟩) | ⟨rfl, rfl⟩)
   ·exact .inl h
   ·exact .inr ⟨b, List.mem_append_left _ hb, h1⟩
   ·exact .inr ⟨a, by simp, e, rfl, rfl⟩
  ·rintro (h | ⟨b, hb, h1, h2, h3⟩)
   ·exact .inl (.inl h)
   ·rw [List.mem_append, List.mem_singleton] at hb
    rcases hb with hb | rfl
    ·exact .inl (.inr ⟨b, hb, h1, h2, h3⟩)
    ·exact .inr ⟨h2, h3⟩
 ·rw [if_neg e]
  refine h.same fun p y => ?_
  unfold StpI
  constructor
  ·rintro (h | ⟨b, hb, h1⟩)
   ·exact .inl h
   ·exact .inr ⟨b, List.mem_append_left _ hb, h1⟩
  ·rintro (h | ⟨b, hb, h1, h2, h3⟩)
   ·exact .inl h
   ·rw [List.mem_append, List.mem_singleton] at hb
    rcases hb with hb | rfl
    ·exact .inr ⟨b, hb, h1, h2, h3⟩
    ·exact absurd h1 e
theorem stpF_more {m : Mc} {K : Tbl} {l : Int} {left : Lit → Bool} {c : Int} {x : Ky} {O : Tbl} (hK : K c = some x) (h : MinT (StpI (StpF m K l left) x l (arcS m c)) O) : MinT (StpF m K l fun z => left z && !z.sameKey (.int .i64 c)) O := by
 have hs : ∀ q : Int, (left (.int .i64 q) && !(Lit.int .i64 q).sameKey (.int .i64 c)) = false ↔ (left (.int .i64 q) = false ∨ q = c) := fun q => by
  by_cases e : q = c
  ·subst e; simp [Lit.sameKey]
  ·simp [Lit.sameKey, e]
 refine h.same fun p y => ?_
 unfold StpI StpF
 constructor
 ·rintro (⟨q, x', a, h1, h2, h3⟩ | ⟨a, ha, h1, h2, h3⟩)
  ·exact ⟨q, x', a, h1, (hs q).2 (.inl h2), h3⟩
  ·exact ⟨c, x, a, hK, (hs c).2 (.inr rfl), ha, h1, h2, h3⟩
 ·rintro ⟨q, x', a, h1, h2, h3, h4⟩
  rcases (hs q).1 h2 with h5 | rfl
  ·exact .inl ⟨q, x', a, h1, h5, h3, h4⟩
  ·rw [hK, Option.some.injEq] at h1
   subst h1
   exact .inr ⟨a, h3, h4⟩
theorem stpF_start {m : Mc} {K : Tbl} {l : Int} {left : Lit → Bool} (h : ∀ q x, K q = some x → left (.int .i64 q) = true) : MinT (StpF m K l left) fun _ => none :=
 ⟨fun p y hp => (by cases hp), fun p y ⟨q, x, a, h1, h2, _⟩ => (by rw [h q x h1] at h2; cases h2)⟩
theorem stpF_end {m : Mc} {K : Tbl} {l : Int} {left : Lit → Bool} {O : Tbl} (hl : ∀ z, left z = false) (h : MinT (StpF m K l left) O) : MinT (StpL m K l) O :=
 h.same fun p y => ⟨fun ⟨q, x, a, h1, h2, h3⟩ => ⟨q, x, a, h1, h3⟩, fun ⟨q, x, a, h1, h3⟩ => ⟨q, x, a, h1, hl _, h3⟩⟩
theorem stpI_zero {S : Int → Ky → Prop} {x : Ky} {l : Int} {O : Tbl} (h : MinT S O) : MinT (StpI S x l []) O := h.same fun p y => ⟨.inl, fun g => by rcases g with g | ⟨a, ha, _⟩; exact g; cases ha⟩
theorem minS_dom {m : Mc} {K : Tbl} {l : Int} {O : Tbl} (hf : faultM m = 0) (h : MinT (StpL m K l) O) : DomT m.2.length O := fun p y hp => by
 obtain ⟨q, x, a, h1, h2, h3, rfl, rfl⟩ := h.1 p y hp
 have := arcs_rng hf h2
 omega
theorem minS_bnd {m : Mc} {K : Tbl} {l : Int} {O : Tbl} {A : Int} {B : Nat} (hf : faultM m = 0) (hb : BndT A B K) (h : MinT (StpL m K l) O) : BndT (A + 1000000000) (B + 1) O := fun p y hp => by
 obtain ⟨q, x, a, h1, h2, h3, rfl, rfl⟩ := h.1 p y hp
 have g2 := arcs_rng hf h2
 have g3 := goA_len x a
 have g4 : (goA x a).1 = x.1 + a.2.2.1 := rfl
 have := hb q x h1
 omega
theorem Keeps.iter {w w' : World} {b r n : Nat} {D : DataW Value} {left : Lit → Bool} {cnt : Nat} (h : w.ranges Try.prog 3 rdM b r n D left cnt) (hg : w.grownBy w' (some r)) : Keeps w w' := fun a v hc => by
 obtain ⟨es, ck, since, seen, c0, _, _, _, _, hr, _⟩ := h
 have hne : a.block ≠ r := fun e => by simp [World.cell?, e, hr] at hc
 rw [World.cell?_of_block (hg.block a.block (World.block_lt_of_cell? _ _ hc) (by simpa using hne))]
 exact hc
set_option maxRecDepth 100000 in
set_option maxHeartbeats 6000000 in
theorem behind_any (v : Value) (mc : Mc) (m : Nat) (K : Tbl) (kk : List Int) (lab : Int) (A : Int) (B : Nat) (w : World) (h : Mach w v mc) (hok : okM mc) (hf : faultM mc = 0) (hM : MpK w m K kk) (hD : DomT mc.2.length K) (hB : BndT A B K) (hA : A ≤ 90000000000000) (hBB : B ≤ 90000) :
  Calls Try.prog 38 #[v, .map (some m), .int .i64 lab] w fun e w' => ∃ (mk : Nat) (K' : Tbl) (kk' : List Int), e = .returned (.map (some mk)) ∧ MpK w' mk K' kk' ∧ (∃ O, MinT (StpL mc K lab) O ∧ Clo mc O K') ∧ DomT mc.2.length K' ∧ BndT (A + 61000000000) (B + 61) K' ∧ Below w.heap.size w w' := by
 have HMa := hidP h
 have HK := hidP hok
 have HF := hidP hf
 have HDK := hidP hD
 have HBK := hidP hB
 have hmlt := hM.lt
 have HMM := hidP hM
 have h60 : mc.2.length ≤ 60 := by obtain ⟨z, l⟩ := mc; exact (right_size hf).1
 obtain ⟨D, h1, h2, h3, h4, h5, h6⟩ := hM
 have H6 : Hid (∀ q, wfI q → (∀ k, K q = some k → Maps.has D (.int .i64 q) = true ∧ ∃ x : Mv, (∀ zd, D.atKey (.int .i64 q) zd = .held (mkMv x)) ∧ MkIs w (mkMv x) (q, k)) ∧ (K q = none → Maps.has D (.int .i64 q) = false)) := h6
 have HWF : Hid (∀ q k, K q = some k → wfI q) := fun q k h => h5 q ((h4 q).1 (by rw [h]; simp))
 obtain ⟨z, l⟩ := mc
 obtain ⟨vs, rfl, hS⟩ := h
 obtain ⟨a, cap, rfl, hcs⟩ := hS.get
 have HCS : Hid (∀ j, j < l.length → ∃ b off va, a = some ⟨b, off, none⟩ ∧ b < w.heap.size ∧ w.cell? ⟨b, off + j * 2, none⟩ = some (.int .i64 (el l j).1) ∧ w.cell? ⟨b, off + j * 2 + 1, none⟩ = some va ∧ Arcs w va (el l j).2) := hcs
 have HSA : Hid (∀ j : Nat, arcS (z, l) j = (el l j).2) := fun j => by simp [arcS]
 have HAL : Hid (∀ j, j < l.length → (el l j).2.length * 32 ≤ 140737488351232) := hok.2
 have HAR : Hid (∀ j : Nat, ∀ b, b ∈ (el l j).2 → 0 ≤ b.1 ∧ 0 ≤ b.2.1 ∧ b.2.1 ≤ 1000 ∧ 0 ≤ b.2.2.1 ∧ b.2.2.1 ≤ 1000000000 ∧ 0 ≤ b.2.2.2 ∧ b.2.2.2 < l.length) := fun j b hb => by
  have := arcs_rng hf (q := (j : Int)) (a := b) (by simpa [arcS] using hb)
  exact this
 have HSTA : Hid (MinT (StpF (z, l) K lab (Maps.has D)) fun _ => none) := stpF_start fun q x hx => ((h6 q (h5 q ((h4 q).1 (by rw [hx]; simp)))).1 x hx).1
 have h60 : l.length ≤ 60 := h60
 clear h2 h3 h4 h5 h6 hS hcs hok hf hD hB
 have hmk := @run_makeMap Try.prog
 have HU : Hid (Below w.heap.size w ((w.alloc (.cells #[.int .i64 z, .slice a l.length cap] 24)).alloc (.map #[] 0))) := by show Below _ _ _; go_grown
 have HM0 : Hid (MpK ((w.alloc (.cells #[.int .i64 z, .slice a l.length cap] 24)).alloc (.map #[] 0)) (w.heap.size + 1) (fun _ => none) []) := by
  have h := MpK.made (w.alloc (.cells #[.int .i64 z, .slice a l.length cap] 24))
  simp only [World.size_alloc] at h
  exact h
 have HB0 : Hid (Blk ((w.alloc (.cells #[.int .i64 z, .slice a l.length cap] 24)).alloc (.map #[] 0)) w.heap.size #[.int .i64 z, .slice a l.length cap] 24) := (Blk.made w _ _).alloc _
 have h1W : ((w.alloc (.cells #[.int .i64 z, .slice a l.length cap] 24)).alloc (.map #[] 0)).ownsMap Try.prog 3 rdM m kk.length D := ownsKeep h1 (HU.out.block m hmlt)
 clear h1
 go_enter Try.func38, Try.ntmps38
 go_wp2_with (first
  | (at_range; refine wpList_range_own _ rfl _ 61 rfl 3 67 lawI Try.underlying61 _ m kk.length D rfl h1W ?_; intro w0 hrg0 hg0 hs0)
  | go_in)
 try go_frame
 have hR0 : ((w.alloc (.cells #[.int .i64 z, .slice a l.length cap] 24)).alloc (.map #[] 0)).heap.size = w.heap.size + 2 := by simp
 rw [hR0] at hrg0
 have HRG0 := hidP hrg0
 have HBW0 : Hid (Below w.heap.size w w0) := HU.out.trans ((gBelow hg0 (by simp) (Nat.le_refl _)).mono (by simp; omega))
 have BM0 : Hid (Blk w0 w.heap.size #[.int .i64 z, .slice a l.length cap] 24) := HB0.out.grown hg0 (by simp)
 have HMO0 : Hid (MpK w0 (w.heap.size + 1) (fun _ => none) []) := HM0.out.below (gBelow hg0 (by simp) (Nat.le_refl _))
 have hs00 : w.heap.size + 3 = w0.heap.size := by rw [hs0, hR0]
 try rw [hR0]
 clear h1W hrg0 hg0 hs0 hR0
 go_loopw [9] (fun _ wr => ∃ (left : Lit → Bool) (cnt : Nat) (O : Tbl) (ko : List Int), wr.ranges Try.prog 3 rdM m (w.heap.size + 2) kk.length D left cnt ∧ Hid (MpK wr (w.heap.size + 1) O ko) ∧ Hid (MinT (StpF (z, l) K lab left) O) ∧ Hid (DomT l.length O) ∧ Hid (Blk wr w.heap.size #[.int .i64 z, .slice a l.length cap] 24) ∧ w.heap.size + 3 ≤ wr.heap.size ∧ Hid (Below w.heap.size w wr)) (fun _ wr => wr.rangeLeft m (w.heap.size + 2))
 case atStart => exact ⟨_, _, _, [], HRG0.out, HMO0, HSTA, (fun q x hx => by cases hx), BM0, by omega, HBW0⟩
 case round =>
  clear HRG0 HBW0 BM0 HMO0 hs00 HSTA HM0 HB0 HU
  obtain ⟨left, cnt, O, ko, hrg, hMO, hmin, hDO, bM, hsz, hb⟩ := hrel
  go_wp2_with (first
   | (at_next; refine wpList_next_ranges _ rfl _ rfl 3 lawI rdM (Value.int .i64) mvV keyInvI mvInv m (w.heap.size + 2) kk.length D _ _ rfl hrg ?_ ?_)
   | go_in)
  ·intro _ hl0
   have HMS : Hid (MinT (StpL (z, l) K lab) O) := stpF_end hl0 hmin.out
   have HBO : Hid (BndT (A + 1000000000) (B + 1) O) := minS_bnd HF.out HBK.out HMS.out
   have c0 := bM.out.cell 0 (v := .int .i64 z) rfl
   have c1 := bM.out.cell 1 (v := .slice a l.length cap) rfl
   clear hmin
   go_wp2_with (first
    | (go_at_call 52; (with_reducible refine (closed_any _ (z, l) (w.heap.size + 1) O ko _ _ _ (HMa.out.later hb.out (Nat.le_refl _)) HK.out HF.out hMO.out hDO.out HBO.out (by omega) (by omega)).mono ?_); rintro e w2 ⟨mk, K2, kk2, rfl, hM2, hC2, hD2, hB2, hle2, hg2⟩; have HM2 := hidP hM2; have HC2 := hidP hC2; have HD2 := hidP hD2; have HB2 : Hid (BndT (A + 61000000000) (B + 61) K2) := (fun p y hp => by have := hB2 p y hp; omega); have HG2 : Hid (Below w.heap.size w w2) := hb.out.trans (gBelow hg2 (by simp) hb.out.size); clear hM2 hC2 hD2 hB2 hg2))
   go_ret
   exact ⟨mk, K2, kk2, rfl, HM2.out, ⟨O, HMS.out, HC2.out⟩, HD2.out, HB2.out, HG2.out⟩
  ·intro x c0 c1 c2 c3 c4 kl y1 y2 w1 cnt1 hkey hlk hv hat hrg1 hlt hg1 hs1 hen
   obtain ⟨rfl, hwx, k, hT, e1, e2, e3, hno1⟩ := entry_of H6.out hkey hv hat
   try simp only at e1 e2 e3 hno1
   obtain ⟨kc, ko9⟩ := k
   try simp only at e1 e2 e3 hno1
   subst e1 e2 e3
   have HB1 : Hid (Below w.heap.size w w1) := hb.out.trans ((gBelow hg1 (fun k hk => by cases hk; omega) hb.out.size))
   have HT := hidP hT
   have HN1 := hidP hno1
   have BM1 := hidP (bM.out.grown hg1 (by first | (simp; done) | (simp; omega)))
   have HKI := hidP (Keeps.iter hrg hg1)
   have HMO1 : Hid (MpK w1 (w.heap.size + 1) O ko) := hMO.out.keep (hg1.block _ hMO.out.lt (by simp)) HKI.out
   have hqd : 0 ≤ c0 ∧ c0 < (l.length : Int) := HDK.out _ _ hT
   have hxb := HBK.out _ _ hT
   simp only at hxb
   obtain ⟨j, hj⟩ : ∃ j : Nat, c0 = (j : Int) := ⟨c0.toNat, by omega⟩
   subst hj
   have hjn : j < l.length := by omega
   have hj0 : (0 : Int) ≤ (j : Int) := by omega
   have hj1 : (j : Int) < (l.length : Int) := by omega
   obtain ⟨sb, soff, va, rfl, hsb, _, s1, hArc⟩ := HCS.out j hjn
   obtain ⟨aa, ca, rfl⟩ := hArc.sl
   have s1 := (HB1.out.cell (p := ⟨sb, soff + j * 2 + 1, none⟩) hsb).trans s1
   have HSB := hidP hsb
   have HARC := hidP hArc
   have zsb : sb < w1.heap.size := Nat.lt_of_lt_of_le hsb HB1.out.size
   have m1 := BM1.out.cell 1 (v := .slice (some ⟨sb, soff, none⟩) l.length cap) rfl
   have z3 : w.heap.size + 3 ≤ w1.heap.size := by omega
   have z0 : w.heap.size < w1.heap.size := by omega
   have HW3 : Hid (Below w1.heap.size w1 (w1.alloc (.cells #[.int .i64 (j : Int), .int .i64 c1, .slice c2 ko9.length c4] 67))) := by show Below _ _ _; go_grown
   have HAS : Hid (arcS (z, l) j = (el l j).2) := HSA.out j
   have HTA : Hid ((el l j).2.take (el l j).2.length = (el l j).2) := List.take_length
   have HTK : Hid (∀ i, i < (el l j).2.length → (el l j).2.take (i + 1) = (el l j).2.take i ++ [el (el l j).2 i]) := fun i hi => take_el hi
   have HTZ : Hid ((el l j).2.take 0 = []) := rfl
   have HEL : Hid (∀ i, i < (el l j).2.length → el (el l j).2 i ∈ (el l j).2) := fun i hi => el_mem hi
   have HAQ : Hid (∀ b, b ∈ (el l j).2 → 0 ≤ b.1 ∧ 0 ≤ b.2.1 ∧ b.2.1 ≤ 1000 ∧ 0 ≤ b.2.2.1 ∧ b.2.2.1 ≤ 1000000000 ∧ 0 ≤ b.2.2.2 ∧ b.2.2.2 < l.length) := HAR.out j
   have hLA : (el l j).2.length * 32 ≤ 140737488351232 := HAL.out j hjn
   have HTT := hidP hT
   have HFIN : Hid (∀ O', MinT (StpI (StpF (z, l) K lab left) (c1, ko9) lab (el l j).2) O' → MinT (StpF (z, l) K lab fun z => left z && !z.sameKey (.int .i64 (j : Int))) O') := fun O' h => stpF_more hT (by rw [HSA.out j]; exact h)
   have HI0 : Hid (MinT (StpI (StpF (z, l) K lab left) (c1, ko9) lab []) O) := stpI_zero hmin.out
   obtain ⟨aa', ca', hva, hac⟩ := HARC.out.get
   simp only [Value.slice.injEq, true_and] at hva
   obtain ⟨rfl, rfl⟩ := hva
   have HAC := hidP hac
   have HCNT : Hid (wr.rangeLeft m (w.heap.size + 2) = cnt) := hrg.left_eq
   have HRG1 := hidP (hrg1.alloc (.cells #[.int .i64 (j : Int), .int .i64 c1, .slice c2 ko9.length c4] 67))
   have hlt1 := hlt
   clear hac hT hno1 hkey hv hat hmin hArc hsb hs1 hg1 hrg hrg1 hb bM hMO
   try simp only at hen
   generalize StpF (z, l) K lab left = SF at *
   generalize (el l j).2 = la at *
   generalize hLa : la.length = La at *
   have HLA := hidP hLa
   clear hLa
   have hwmne : m ≠ w.heap.size + 1 := by omega
   go_wp2
   go_loopw [27] (fun i27 wi => ∃ (i : Nat) (O' : Tbl) (ko' : List Int), i ≤ La ∧ i27 = .int .i64 i ∧ wi.ranges Try.prog 3 rdM m (w.heap.size + 2) kk.length D (fun z => left z && !z.sameKey (.int .i64 (j : Int))) cnt1 ∧ Hid (MpK wi (w.heap.size + 1) O' ko') ∧ Hid (MinT (StpI SF (c1, ko9) lab (la.take i)) O') ∧ Hid (DomT l.length O') ∧ Hid (Blk wi w1.heap.size #[.int .i64 (j : Int), .int .i64 c1, .slice c2 ko9.length c4] 67) ∧ Hid (Blk wi w.heap.size #[.int .i64 z, .slice (some ⟨sb, soff, none⟩) l.length cap] 24) ∧ w1.heap.size + 1 ≤ wi.heap.size ∧ Hid (Below w.heap.size w wi)) (fun i27 _ => La - (intOf i27).toNat)
   case atStart => exact ⟨0, O, ko, Nat.zero_le _, rfl, HRG1.out, HMO1.out.below HW3.out, by rw [HTZ.out]; exact HI0.out, hDO, Blk.made w1 _ _, BM1.out.alloc _, by simp, HB1.out.trans (HW3.out.mono HB1.out.size)⟩
   case round =>
    clear HRG1 HMO1 HI0 BM1 HW3 m1 s1 zsb hDO
    obtain ⟨i, Oi, ki, hi, rfl, hrg, hMO, hmin, hDO, bK, bM, hsi, hbi⟩ := hrel
    have k0 := bK.out.cell 0 (v := .int .i64 (j : Int)) rfl
    have k1 := bK.out.cell 1 (v := .int .i64 c1) rfl
    have k2 := bK.out.cell 2 (v := .slice c2 ko9.length c4) rfl
    have zk : w1.heap.size < wr.heap.size := by omega
    by_cases hit : i < La
    ·have hi0 : (0 : Int) ≤ (i : Int) := by omega
     have hi1 : (i : Int) < (La : Int) := by omega
     obtain ⟨ab, aoff, rfl, hab, q0, q1, q2, q3⟩ := HAC.out i hit
     have q0 := (hbi.out.cell (p := ⟨ab, aoff + i * 4, none⟩) hab).trans q0
     have q1 := (hbi.out.cell (p := ⟨ab, aoff + i * 4 + 1, none⟩) hab).trans q1
     have q2 := (hbi.out.cell (p := ⟨ab, aoff + i * 4 + 2, none⟩) hab).trans q2
     have q3 := (hbi.out.cell (p := ⟨ab, aoff + i * 4 + 3, none⟩) hab).trans q3
     have zab : ab < wr.heap.size := Nat.lt_of_lt_of_le hab hbi.out.size
     obtain ⟨p0, p1, p1b, p2, p3, p4, p5⟩ := HAQ.out _ (HEL.out i hit)
     have HT2 := hidP (HTK.out i hit)
     have hkil : ki.length ≤ 60 := Nat.le_trans (hMO.out.dom hDO.out) h60
     have HAB := hidP hab
     clear hab
     generalize el la i = b9 at *
     obtain ⟨b0, b1, b2, b3⟩ := b9
     simp only at q0 q1 q2 q3 p0 p1 p1b p2 p3 p4 p5
     have HST := hidP (stpI_snoc (a := (b0, b1, b2, b3)) hmin.out)
     have HW6 : Hid (Below wr.heap.size wr (wr.alloc (.cells #[.int .i64 b0, .int .i64 b1, .int .i64 b2, .int .i64 b3] 75))) := by show Below _ _ _; go_grown
     have hw3f : wfI b3 := wfI_of (by omega) (by omega)
     have HNX : Hid (Nums (wr.alloc (.cells #[.int .i64 b0, .int .i64 b1, .int .i64 b2, .int .i64 b3] 75)) (.slice c2 ko9.length c4) ko9) := HN1.out.later (hbi.out.trans (HW6.out.mono hbi.out.size)) (Nat.le_refl _)
     have HRG6 := hidP (hrg.alloc (.cells #[.int .i64 b0, .int .i64 b1, .int .i64 b2, .int .i64 b3] 75))
     have HMO6 := hidP (hMO.out.below HW6.out)
     have BK6 := hidP (bK.out.alloc (.cells #[.int .i64 b0, .int .i64 b1, .int .i64 b2, .int .i64 b3] 75))
     have BM6 := hidP (bM.out.alloc (.cells #[.int .i64 b0, .int .i64 b1, .int .i64 b2, .int .i64 b3] 75))
     by_cases hb0 : b0 = lab
     ·have HST2 : Hid (MinT (StpI SF (c1, ko9) lab (la.take (i + 1))) (putT Oi b3 (goA (c1, ko9) (b0, b1, b2, b3)))) := by
       show MinT _ _
       have h := HST.out
       rw [HT2.out]
       simp only at h
       rw [if_pos hb0] at h
       exact h
      have hbe : (b0 == lab) = true := by simp [hb0]
      clear hb0
      have HDO2 : Hid (DomT l.length (putT Oi b3 (goA (c1, ko9) (b0, b1, b2, b3)))) := fun p y hp => by
       rcases putT_or hp with g | ⟨rfl, _⟩
       ·exact hDO.out p y g
       ·omega
      go_wp2_with (first
       | (go_at_call 60; (with_reducible refine (along_any _ ((j : Int), c1, ko9) (b0, b1, b2, b3) _ (mkIs_of HNX.out) (by simp only; omega) (by simp only; omega) (by simp only; omega) (by simp only; omega) (by simp only; omega)).mono ?_); rintro e w8 ⟨v8, rfl, ho8, hb8⟩; obtain ⟨a8, c8, rfl⟩ := ho8.sl; have HB8 : Hid (Below wr.heap.size wr w8) := HW6.out.trans (hb8.mono HW6.out.size); have HMO8 := hidP (HMO6.out.below (hb8.mono (Nat.le_refl _))); have HRG8 := hidP (HRG6.out.kept (gNew (r := none) (hb8.mono (Nat.le_refl _))) (by simp) (by simp)); have HMK8 : Hid (MkIs w8 (.agg #[.int .i64 b3, .int .i64 (goA (c1, ko9) (b0, b1, b2, b3)).1, .slice a8 (goA (c1, ko9) (b0, b1, b2, b3)).2.length c8]) (b3, goA (c1, ko9) (b0, b1, b2, b3))) := ⟨_, rfl, ho8.nums⟩; have HLN8 : Hid ((b3, goA (c1, ko9) (b0, b1, b2, b3)).2.2.length ≤ 1000000) := (by show _ ≤ _; have h9 := goA_len (c1, ko9) (b0, b1, b2, b3); simp only at h9 ⊢; omega); clear ho8 hb8)
       | (go_at_call 51; (with_reducible refine (put_any (w.heap.size + 1) _ (b3, goA (c1, ko9) (b0, b1, b2, b3)) Oi ki _ HMO8.out HMK8.out hw3f (by omega) HLN8.out).mono ?_); rintro e w9 ⟨rfl, hM9, hg9⟩; have HM9 : Hid (MpK w9 (w.heap.size + 1) (putT Oi b3 (goA (c1, ko9) (b0, b1, b2, b3))) (addS ki b3)) := hM9; have HRG9 := hidP (HRG8.out.kept hg9 (by simpa using hwmne) (by simp)); have BK9 := hidP ((bK.out.below HB8.out bK.out.lt).grown hg9 (by simp; omega)); have BM9 := hidP ((bM.out.below HB8.out bM.out.lt).grown hg9 (by simp)); have HB9 : Hid (Below w.heap.size w w9) := hbi.out.trans ((HB8.out.mono hbi.out.size).trans (gBelow hg9 (by simp) (by have := HB8.out.size; omega))); have zz9 := hg9.size; have zz8 := HB8.out.size; clear hM9 hg9))
      go_roundw
      case rel => exact ⟨i + 1, _, _, by omega, by go_num, HRG9.out, HM9, HST2, HDO2, BK9, BM9, by omega, HB9⟩
      case measure => simp [intOf]; omega
     ·have HST2 : Hid (MinT (StpI SF (c1, ko9) lab (la.take (i + 1))) Oi) := by
       show MinT _ _
       have h := HST.out
       rw [HT2.out]
       simp only at h
       rw [if_neg hb0] at h
       exact h
      have hbe : (b0 == lab) = false := by simp [hb0]
      go_wp2
      go_roundw
      case rel => exact ⟨i + 1, Oi, ki, by omega, by go_num, HRG6.out, HMO6, HST2, hDO, BK6, BM6, by simp; omega, by show Below _ _ _; have h9 := hbi.out; go_grown⟩
      case measure => simp [intOf]; omega
    ·have hil : i = La := by omega
     have hnl : ¬ (i : Int) < (La : Int) := by omega
     have HFM : Hid (MinT (StpF (z, l) K lab fun z => left z && !z.sameKey (.int .i64 (j : Int))) Oi) := HFIN.out _ (by have h := hmin.out; rw [hil, HTA.out] at h; exact h)
     go_wp2
     go_roundw
     case rel => exact ⟨_, cnt1, Oi, ki, hrg, hMO, HFM, hDO, bM, by omega, hbi⟩
     case measure => rw [hrg.left_eq, HCNT.out]; exact hlt1
end Go.Proofs.Ytkeeiihaijhdoaa.Sm
namespace Go.Proofs.Ytkeeiihaijhdoaa.Sm
open Go.Proofs.Ytkeeiihaijhdoaa.Pl
set_option linter.unusedVariables false
set_option linter.unusedSimpArgs false
theorem tblF_skip {q : Int} : ∀ {l : List Mk} {T : Tbl}, (∀ k ∈ l, k.1 ≠ q) → l.foldl (fun T k => putT T k.1 k.2) T q = T q
  | [], _, _ => rfl
  | k :: l, T, h => by
    have h1 := tblF_skip (l := l) (T := putT T k.1 k.2) (fun j hj => h j (List.mem_cons_of_mem _ hj))
    rw [List.foldl_cons, h1]
    unfold putT
    rw [if_neg (fun e => h k List.mem_cons_self e.symm)]
theorem tblF_at {n : Int} : ∀ {l : List Mk} {b : Int} {T : Tbl}, risB n b l = true → ∀ k ∈ l, T k.1 = none → l.foldl (fun T k => putT T k.1 k.2) T k.1 = some k.2
  | k0 :: l, b, T, h, k, hk, hT => by
    simp only [risB, Bool.and_eq_true, decide_eq_true_eq] at h
    have hge := (risB_nodup h.2).2
    rw [List.foldl_cons]
    rcases List.mem_cons.1 hk with rfl | hk
    · rw [tblF_skip (fun j hj => by have := hge j hj; omega)]
      unfold putT minO
      rw [if_pos rfl, hT]
    · refine tblF_at h.2 k hk ?_
      have := hge k hk
      unfold putT
      rw [if_neg (by omega)]
      exact hT
theorem tblT_at {n : Int} {l : List Mk} (h : risB n 0 l = true) {q : Int} {y : Ky} : tblT l q = some y ↔ (q, y) ∈ l := by
 constructor
 ·exact tblT_mem
 ·intro hk
  exact tblF_at (T := fun _ => none) h (q, y) hk rfl
theorem risB_ordB {T : Tbl} (n : Nat) : ∀ (c b : Nat), b + c ≤ n → risB n b ((List.range' b c).filterMap fun q : Nat => (T (q : Int)).map fun k => ((q : Int), k)) = true
  | 0, b, _ => by simp [risB]
  | c + 1, b, h => by
    have ih := risB_ordB (T := T) n c (b + 1) (by omega)
    rw [List.range'_succ, List.filterMap_cons]
    rcases hT : T (b : Int) with _ | y
    · simp only [Option.map_none]
      -- a lower bound may be lowered
      have hl : ∀ {l : List Mk} {x y : Int}, y ≤ x → risB n x l = true → risB n y l = true := by
        intro l x y hxy hl
        cases l with
        | nil => rfl
        | cons k l =>
          simp only [risB, Bool.and_eq_true, decide_eq_true_eq] at hl ⊢
          exact ⟨⟨by omega, hl.1.2⟩, hl.2⟩
      exact hl (by omega) ih
    · simp only [Option.map_some, risB, Bool.and_eq_true, decide_eq_true_eq]
      refine ⟨⟨by omega, by omega⟩, ?_⟩
      have e : ((b + 1 : Nat) : Int) = (b : Int) + 1 := by omega
      rw [e] at ih
      exact ih
theorem risB_ordL (n : Nat) (T : Tbl) : risB n 0 (ordL n T) = true := by
 have := risB_ordB (T := T) n n 0 (by omega)
 unfold ordL
 rw [List.range_eq_range']
 exact this
theorem mem_ordL {n : Nat} {T : Tbl} (hD : DomT n T) {q : Int} {y : Ky} : (q, y) ∈ ordL n T ↔ T q = some y := by
 constructor
 ·exact fun h => ordL_mem h
 ·intro h
  obtain ⟨h0, h1⟩ := hD q y h
  unfold ordL
  rw [List.mem_filterMap]
  refine ⟨q.toNat, List.mem_range.2 (by omega), ?_⟩
  have e : ((q.toNat : Nat) : Int) = q := by omega
  rw [e, h]; rfl
theorem tblT_ordL {n : Nat} {T : Tbl} (hD : DomT n T) : tblT (ordL n T) = T := by
 funext q
 rcases hT : T q with _ | y
 ·rcases h2 : tblT (ordL n T) q with _ | y
  ·rfl
  ·have := (mem_ordL hD).1 (tblT_mem h2)
   rw [hT] at this; cases this
 ·exact (tblT_at (risB_ordL n T)).2 ((mem_ordL hD).2 hT)
end Go.Proofs.Ytkeeiihaijhdoaa.Sm
namespace Go.Proofs.Ytkeeiihaijhdoaa.Wt
open Go.ChangeShapes Go.WideShapes Go.ChangeAt Go.RowKit
open Go.Proofs.Ytkeeiihaijhdoaa.Pl
set_option linter.unusedVariables false
set_option linter.unusedSimpArgs false
section
variable {P : Program} {ops : Array Oper} {Q : Exit → Act → World → Prop} {md : Region.Mode} {S : World → Prop} {L : Nat}
theorem anyL_br {rs : List Nat} {n : Nat} {listed : Array Bool} {a : Act} {w : World} (hr : Region.ready md ops listed = rs) (hne : rs ≠ [])
  (h : ∀ i ∈ rs, ∃ o, ops[i]? = some o ∧ o.guard = none ∧ ∀ K : Act → World → Prop, (∀ b x, (i = L ∨ S x) → AnyL P md ops Q S L n (listed.setIfInBounds i true) b x → K b x) → Oper.wp P o a w K Q) : AnyL P md ops Q S L (n + 1) listed a w := by
 refine ⟨fun h0 => absurd (hr ▸ h0) hne, ?_⟩
 rw [hr]
 intro j hj
 obtain ⟨o, hi, hg, h⟩ := h j hj
 refine wpOp_step hi (fun K hK => ?_)
 have hw : Region.wanted o (yielded ops a.tmps) = true := by simp [Region.wanted, hg]
 rw [if_pos hw]
 exact h K (fun b x h1 h2 => hK b x ⟨h1, h2⟩)
end
theorem own_mono' {w : World} {base base' : Nat} {e : TypeId} {s : Nat} {v : Value} {n : Nat} {xs : List Value} (h : w.ownsRow base e s v n xs) (hb : base' ≤ base) : w.ownsRow base' e s v n xs := by
 refine ⟨h.1, ?_⟩
 rcases h.2 with h2 | ⟨g, cap, cur, hv, hg, h3⟩
 ·exact .inl h2
 ·exact .inr ⟨g, cap, cur, hv, Nat.le_trans hb hg, h3⟩
theorem one_arc (w : World) (p : Ar) : Row 4 encA (w.alloc (.cells #[.int .i64 p.1, .int .i64 p.2.1, .int .i64 p.2.2.1, .int .i64 p.2.2.2] 75)) (.slice (some ⟨w.heap.size, 0, none⟩) 1 1) [p] := by
 refine .inr ⟨⟨w.heap.size, 0, none⟩, 1, rfl, fun j hj i u hu => ?_⟩
 have hj0 : j = 0 := by simp at hj; exact hj
 subst hj0
 rw [Addr.add_lit]
 refine (Blk.made w _ _).cell _ ?_
 rw [Nat.zero_mul, Nat.zero_add, Nat.zero_add]
 rw [el_zero] at hu
 simpa [encA] using hu
theorem own_snoc {w : World} {base : Nat} {v : Value} {n : Nat} {l : List Ar} {p : Ar} (h : w.ownsRow base 75 4 v (n + [p].length) (l.flatMap encA ++ [p].flatMap encA)) (hn : n = l.length) : w.ownsRow base 75 4 v (l ++ [p]).length ((l ++ [p]).flatMap encA) := by
 subst hn
 rw [List.length_append, List.flatMap_append]
 exact h
theorem snoc_facts {w w' : World} {base : Nat} {vo v : Value} {l : List Ar} {p : Ar} {ob : Obj} (ho : w.ownsRow base 75 4 vo l.length (l.flatMap encA)) (hs : base ≤ w.heap.size) (h : w'.ownsRow base 75 4 v (l.length + [p].length) (l.flatMap encA ++ [p].flatMap encA)) (hg : (w.alloc ob).grownBy w' vo.ownBlock) :
  Hid (w'.ownsRow base 75 4 v (l ++ [p]).length ((l ++ [p]).flatMap encA)) ∧ Hid (Below base w w') ∧ Hid (base ≤ w'.heap.size) := by
 have hb : Below base w w' := ((Below.refl _ _).alloc hs ob).grown hg (by simp; omega) (own_geK ho)
 exact ⟨own_snoc h rfl, hb, Nat.le_trans hs hb.size⟩
end Go.Proofs.Ytkeeiihaijhdoaa.Wt
namespace Go.Proofs.Ytkeeiihaijhdoaa.Sm
open Go.ChangeShapes Go.WideShapes Go.ChangeAt Go.RowKit
open Go.Proofs.Ytkeeiihaijhdoaa.Pl Go.Proofs.Ytkeeiihaijhdoaa.Wt
set_option linter.unusedVariables false
set_option linter.unusedSimpArgs false
def NumE (B X : Nat) (w : World) (v : Value) (l : List Int) : Prop := ∀ w' : World, (∀ b, b < w.heap.size → b ≠ B → b ≠ X → w'.heap[b]? = w.heap[b]?) → Nums w' v l
theorem NumE.nums {B X : Nat} {w : World} {v : Value} {l : List Int} (h : NumE B X w v l) : Nums w v l := h w fun _ _ _ _ => rfl
theorem NumE.old {B X : Nat} {w0 w : World} {v : Value} {l : List Int} (h : Nums w0 v l) (hb : Below w0.heap.size w0 w) (hB : w0.heap.size ≤ B) (hX : w0.heap.size ≤ X) : NumE B X w v l := fun w' hw => by
 refine Row.keeps h fun a u hu => ?_
 have hlt := World.block_lt_of_cell? _ _ hu
 rw [World.cell?_of_block ((hw a.block (Nat.lt_of_lt_of_le hlt hb.size) (by omega) (by omega)).trans (hb.block a.block hlt))]
 exact hu
def MarksX (X : Nat) (w : World) (v : Value) (ms : List Mk) : Prop := ∃ xs : List MkV, (∀ w' : World, (∀ b, b < w.heap.size → b ≠ X → w'.heap[b]? = w.heap[b]?) → Row 3 encM w' v xs) ∧ xs.length = ms.length ∧ ∀ j, j < ms.length → (el xs j).1 = (el ms j).1 ∧ (el xs j).2.1 = (el ms j).2.1 ∧ NumE X X w (el xs j).2.2 (el ms j).2.2
theorem MarksX.marks {X : Nat} {w : World} {v : Value} {ms : List Mk} (h : MarksX X w v ms) : Marks w v ms := by
 obtain ⟨xs, h1, h2, h3⟩ := h
 exact ⟨xs, h1 w fun _ _ _ => rfl, h2, fun j hj => ⟨(h3 j hj).1, (h3 j hj).2.1, (h3 j hj).2.2.nums⟩⟩
theorem MarksX.old {X : Nat} {w0 w : World} {v : Value} {ms : List Mk} (h : Marks w0 v ms) (hb : Below w0.heap.size w0 w) (hX : w0.heap.size ≤ X) : MarksX X w v ms := by
 obtain ⟨xs, h1, h2, h3⟩ := h
 refine ⟨xs, fun w' hw => Row.keeps h1 fun a u hu => ?_, h2, fun j hj => ⟨(h3 j hj).1, (h3 j hj).2.1, NumE.old (h3 j hj).2.2 hb hX hX⟩⟩
 have hlt := World.block_lt_of_cell? _ _ hu
 rw [World.cell?_of_block ((hw a.block (Nat.lt_of_lt_of_le hlt hb.size) (by omega)).trans (hb.block a.block hlt))]
 exact hu
theorem back_at {w w' : World} {P : Nat} {o : Obj} (hP : P < w'.heap.size) : ∀ b, ({ w' with heap := w'.heap.setIfInBounds P o } : World).heap[b]? = if b = P then some o else w'.heap[b]? := fun b => by
 show (w'.heap.setIfInBounds P o)[b]? = _
 rw [Array.getElem?_setIfInBounds]
 by_cases e : P = b
 ·subst e; rw [if_pos rfl, if_pos hP, if_pos rfl]
 ·rw [if_neg e, if_neg (Ne.symm e)]
theorem NumE.zero {X : Nat} {w w' : World} {v : Value} {l : List Int} (h : NumE X X w v l) (hz : ∀ x ∈ l, x ≠ 0) {P : Nat} {t : TypeId} (hP : Blk w P #[.int .i64 0, .slice none 0 0] t) (hk : ∀ b, b < w.heap.size → b ≠ P → w'.heap[b]? = w.heap[b]?) (hs : w.heap.size ≤ w'.heap.size) (hX : P ≠ X) : NumE X X w' v l := fun w2 hw => by
 have hPl := hP.lt
 by_cases hP2 : P < w2.heap.size
 ·have g := back_at (w := w) (o := .cells #[.int .i64 0, .slice none 0 0] t (0, 0)) hP2
  have h2 : Nums { w2 with heap := w2.heap.setIfInBounds P (.cells #[.int .i64 0, .slice none 0 0] t (0, 0)) } v l := h _ fun b hb hx _ => by
   rw [g b]
   by_cases e : b = P
   ·subst e; rw [if_pos rfl]; exact hP.symm
   ·rw [if_neg e]; exact (hw b (by omega) hx hx).trans (hk b hb e)
  rcases h2 with hn | ⟨x, cap, hv, hc⟩
  ·exact .inl hn
  ·refine .inr ⟨x, cap, hv, fun j hj i u hu => ?_⟩
   have h3 := hc j hj i u hu
   have hi0 : i = 0 := by
    rcases i with _ | i
    ·rfl
    ·simp [encI1] at hu
   subst hi0
   simp [encI1] at hu
   have hne : (x.add (j * 1 + 0)).block ≠ P := fun e => by
    simp only [World.cell?, g, e, if_true] at h3
    subst hu
    rcases ho : (x.add (j * 1 + 0)).off with _ | _ | o
    ·rw [ho] at h3; simp at h3; exact hz _ (el_mem hj) h3.2.symm
    ·rw [ho] at h3; simp at h3
    ·rw [ho] at h3; simp at h3
   rw [World.cell?_of_block (w := w2) (w' := { w2 with heap := w2.heap.setIfInBounds P (.cells #[.int .i64 0, .slice none 0 0] t (0, 0)) }) (a := x.add (j * 1 + 0)) (by rw [g, if_neg hne])] at h3
   exact h3
 ·exfalso
  have := hw P (by omega) hX hX
  have h5 : P < w'.heap.size := by omega
  rw [Array.getElem?_eq_none (by omega), Array.getElem?_eq_getElem h5] at this
  cases this
theorem MarksX.zero {X : Nat} {w w' : World} {v : Value} {ms : List Mk} (h : MarksX X w v ms) (hz : ∀ j, j < ms.length → ∀ x ∈ (el ms j).2.2, x ≠ 0) {P : Nat} {t : TypeId} (hP : Blk w P #[.int .i64 0, .slice none 0 0] t) (hk : ∀ b, b < w.heap.size → b ≠ P → w'.heap[b]? = w.heap[b]?) (hs : w.heap.size ≤ w'.heap.size) (hX : P ≠ X) : MarksX X w' v ms := by
 obtain ⟨xs, h1, h2, h3⟩ := h
 refine ⟨xs, fun w2 hw => ?_, h2, fun j hj => ⟨(h3 j hj).1, (h3 j hj).2.1, (h3 j hj).2.2.zero (hz j hj) hP hk hs hX⟩⟩
 have hPl := hP.lt
 have hP2 : P < w2.heap.size := by
  by_cases h9 : P < w2.heap.size
  ·exact h9
  ·exfalso
   have := hw P (by omega) hX
   have h5 : P < w'.heap.size := by omega
   rw [Array.getElem?_eq_none (by omega), Array.getElem?_eq_getElem h5] at this
   cases this
 have g := back_at (w := w) (o := .cells #[.int .i64 0, .slice none 0 0] t (0, 0)) hP2
 have h9 : Row 3 encM { w2 with heap := w2.heap.setIfInBounds P (.cells #[.int .i64 0, .slice none 0 0] t (0, 0)) } v xs := h1 _ fun b hb hx => by
  rw [g b]
  by_cases e : b = P
  ·subst e; rw [if_pos rfl]; exact hP.symm
  ·rw [if_neg e]; exact (hw b (by omega) hx).trans (hk b hb e)
 rcases h9 with hn | ⟨x, cap, hv, hc⟩
 ·exact .inl hn
 ·refine .inr ⟨x, cap, hv, fun j hj i u hu => ?_⟩
  have hne : x.block ≠ P := fun e => by
   have c0 := hc j hj 0 _ rfl
   have c1 := hc j hj 1 _ rfl
   have c2 := hc j hj 2 _ rfl
   have hb : ∀ k, (x.add k).block = P := fun k => by unfold Addr.add; split <;> simp [e]
   have ho : ∀ k, (x.add k).off = x.off + k := fun k => by
    unfold Addr.add
    split
    ·rename_i h9; simp [h9]
    ·rfl
   simp only [World.cell?, g, hb, ho, if_true] at c0 c1 c2
   have : x.off + (j * 3 + 2) < 2 := by
    by_cases h8 : x.off + (j * 3 + 2) < 2
    ·exact h8
    ·rw [Array.getElem?_eq_none (by simp; omega)] at c2; simp at c2
   omega
  have h3 := hc j hj i u hu
  have hb : (x.add (j * 3 + i)).block ≠ P := by unfold Addr.add; split <;> exact hne
  rw [World.cell?_of_block (w := w2) (w' := { w2 with heap := w2.heap.setIfInBounds P (.cells #[.int .i64 0, .slice none 0 0] t (0, 0)) }) (a := x.add (j * 3 + i)) (by rw [g, if_neg hb])] at h3
  exact h3
theorem chk_ok {m : Mc} {r : Ru} (h : chkA m r = 0) : faultM m = 0 ∧ runB m.2.length r = true := by
 unfold chkA at h
 by_cases hf : faultM m ≠ 0
 ·rw [if_pos hf] at h; exact absurd h hf
 ·rw [if_neg hf] at h
  by_cases hr : runB m.2.length r = true
  ·exact ⟨by omega, hr⟩
  ·rw [if_neg hr] at h; cases h
end Go.Proofs.Ytkeeiihaijhdoaa.Sm
