/- Where arcs lead that read nothing: the program's way. -/
import Derived.Test.YtkeeiihaijhdoaaDag
import Derived.Test.YtkeeiihaijhdoaaDae
import Derived.Test.YtkeeiihaijhdoaaDab
import Derived.Test.YtkeeiihaijhdoaaDac
namespace Go.Proofs.Ytkeeiihaijhdoaa.Sm
open Go.ChangeShapes Go.WideShapes Go.ChangeAt Go.RowKit Go.Maps
open Go.Proofs.Ytkeeiihaijhdoaa.Pl Go.Proofs.Ytkeeiihaijhdoaa.Wt
set_option linter.unusedVariables false
set_option linter.unusedSimpArgs false
theorem MpK.dom {w : World} {m : Nat} {T : Tbl} {ks : List Int} (h : MpK w m T ks) {n : Nat} (hd : DomT n T) : ks.length ≤ n := by
 obtain ⟨D, _, _, h3, h4, _⟩ := h
 refine few_below h3 (fun t ht => ?_)
 obtain ⟨k, hk⟩ := Option.ne_none_iff_exists'.1 ((h4 t).2 ht)
 exact hd t k hk
theorem MpK.empty {w : World} {m : Nat} {T : Tbl} (h : MpK w m T []) (q : Int) : T q = none := by
 obtain ⟨D, _, _, _, h4, _⟩ := h
 by_cases e : T q = none
 ·exact e
 ·have := (h4 q).1 e; cases this
theorem MpK.mem {w : World} {m : Nat} {T : Tbl} {ks : List Int} (h : MpK w m T ks) {q : Int} : q ∉ ks ↔ T q = none := by
 obtain ⟨D, _, _, _, h4, _⟩ := h
 rw [← h4]
 simp
theorem gMap {a b c : World} {r : Option Nat} {k : Nat} (h : a.grownBy b r) (g : b.grownBy c (some k)) (hk : a.heap.size ≤ k) : a.grownBy c r :=
 ⟨g.os.trans h.os, g.tape.trans h.tape, g.output.trans h.output, Nat.le_trans h.size g.size, fun i hi hne => (g.block i (Nat.lt_of_lt_of_le hi h.size) (by simp; omega)).trans (h.block i hi hne)⟩
theorem pshT_dom {n : Nat} {K O : Tbl} {x : Ky} (hO : DomT n O) {l : List Ar} (hl : ∀ a ∈ l, 0 ≤ a.2.2.2 ∧ a.2.2.2 < n) : DomT n (pshT K x O l) := by
 intro p y hp
 rcases pshT_or _ hp with g | ⟨_, a, ha, _, rfl, _⟩
 ·exact hO p y g
 ·exact hl a ha
set_option maxRecDepth 100000 in
set_option maxHeartbeats 6000000 in
theorem closed_any (v : Value) (mc : Mc) (mo : Nat) (T : Tbl) (ks : List Int) (A : Int) (B : Nat) (w : World) (h : Mach w v mc) (hok : okM mc) (hf : faultM mc = 0) (hM : MpK w mo T ks) (hT : DomT mc.2.length T) (hB : BndT A B T) (hA : A ≤ 100000000000000) (hBB : B ≤ 100000) :
  Calls Try.prog 52 #[v, .map (some mo)] w fun e w' => ∃ (mk : Nat) (K : Tbl) (kk : List Int), e = .returned (.map (some mk)) ∧ MpK w' mk K kk ∧ Clo mc T K ∧ DomT mc.2.length K ∧ BndT (A + 60000000000) (B + 60) K ∧ w.heap.size ≤ mk ∧ w.grownBy w' (some mo) := by
 have HMach := hidP h
 have HM := hidP hM
 have hmlt := hM.lt
 have HFM := hidP hf
 have h60 : mc.2.length ≤ 60 := by obtain ⟨z, l⟩ := mc; exact (right_size hf).1
 have HST := hidP (DjI.start (m := mc) hT hB)
 obtain ⟨z, l⟩ := mc
 obtain ⟨vs, rfl, hS⟩ := h
 obtain ⟨a, cap, rfl, hcs⟩ := hS.get
 have HCS : Hid (∀ j, j < l.length → ∃ b off va, a = some ⟨b, off, none⟩ ∧ b < w.heap.size ∧ w.cell? ⟨b, off + j * 2, none⟩ = some (.int .i64 (el l j).1) ∧ w.cell? ⟨b, off + j * 2 + 1, none⟩ = some va ∧ Arcs w va (el l j).2) := hcs
 have HSA : Hid (∀ j : Nat, arcS (z, l) j = (el l j).2) := fun j => by simp [arcS]
 have HAL : Hid (∀ j, j < l.length → (el l j).2.length * 32 ≤ 140737488351232) := hok.2
 clear hS hcs hok hM hf hT hB
 simp only at h60
 have hmk := @run_makeMap Try.prog
 have hnot : ∀ (x : Bool) (w : World), (Op.unary .not (.bool x)).run Try.prog w = .ok (.bool (!x)) w := fun _ _ => rfl
 have HU : Hid (Below w.heap.size w ((w.alloc (.cells #[.int .i64 z, .slice a l.length cap] 24)).alloc (.map #[] 0))) := by show Below _ _ _; go_grown
 have HMK0 : Hid (MpK ((w.alloc (.cells #[.int .i64 z, .slice a l.length cap] 24)).alloc (.map #[] 0)) (w.heap.size + 1) (fun _ => none) []) := by
  have h := MpK.made (w.alloc (.cells #[.int .i64 z, .slice a l.length cap] 24))
  simp only [World.size_alloc] at h
  exact h
 go_enter Try.func52, Try.ntmps52
 go_wp2
 go_loopw [6] (fun _ wr => ∃ (K O : Tbl) (kk ko : List Int), Hid (DjI (z, l) T A B K O kk.length) ∧ Hid (MpK wr (w.heap.size + 1) K kk) ∧ Hid (MpK wr mo O ko) ∧ Hid (Blk wr w.heap.size #[.int .i64 z, .slice a l.length cap] 24) ∧ w.heap.size + 2 ≤ wr.heap.size ∧ Hid (w.grownBy wr (some mo))) (fun _ wr => 100 - mapLen wr (w.heap.size + 1))
 case atStart => exact ⟨_, T, [], ks, HST, HMK0, HM.out.below HU.out, (Blk.made w _ _).alloc _, by simp, gNew HU.out⟩
 case round =>
  clear HMK0 HU
  obtain ⟨K, O, kk, ko, hI, hMk, hMo, bM, hs, hg⟩ := hrel
  have hkl : kk.length ≤ 60 := Nat.le_trans (hMk.out.dom hI.out.dK) h60
  have hkol : ko.length ≤ 60 := Nat.le_trans (hMo.out.dom hI.out.dO) h60
  have hmne : w.heap.size + 1 ≠ mo := by omega
  obtain ⟨D, hown, hDs, _⟩ := hMo.out
  by_cases hke : ko = []
  ·have hkz : ko.length = 0 := by rw [hke]; rfl
   rw [hkz] at hDs
   have HOE : Hid (∀ p, O p = none) := fun p => by
    have h := hMo.out
    rw [hke] at h
    exact h.empty p
   go_wp2_with (first
    | (at_len; refine wpList_len_own _ rfl _ 61 rfl 3 67 Try.underlying61 rdM mo _ D rfl hown ?_; rw [hDs])
    | go_in)
   go_ret
   exact ⟨_, K, kk, rfl, hMk.out, hI.out.dj.fin HOE.out, hI.out.dK, (fun q x hx => by have := hI.out.bK q x hx; omega), by omega, hg.out⟩
  ·have hkp : 0 < ko.length := List.length_pos_iff.2 hke
   have hkp' : (0 : Int) < ((ko.length : Nat) : Int) := by omega
   have HKE := hidP hke
   have HSZ : Hid (∀ q k, O q = some k → k.2.length ≤ 1000000) := fun q k hk => by have := (hI.out.bO q k hk).2.2; omega
   clear hke
   generalize hKL : ko.length = kl at *
   have HKL := hidP hKL
   clear hKL
   go_wp2_with (first
    | (at_len; refine wpList_len_own _ rfl _ 61 rfl 3 67 Try.underlying61 rdM mo _ D rfl hown ?_; rw [hDs])
    | (go_at_call 70; (with_reducible refine (take_any mo O ko _ hMo.out HKE.out HSZ.out).mono ?_); rintro e w3 ⟨q, x, vo, rfl, hno, hTq, hmin, hM3, hg3⟩; obtain ⟨avo, cvo, rfl⟩ := Row.sl hno; have HTq := hidP hTq; have HMin := hidP hmin; have hqd : 0 ≤ q ∧ q < (l.length : Int) := hI.out.dO q x hTq; have hxb := hI.out.bO q x hTq; have hMk3 := hMk.out.grown hMo.out hg3 hmne; have HNW3 : Hid (Below w3.heap.size w3 (w3.alloc (.cells #[.int .i64 q, .int .i64 x.1, .slice avo x.2.length cvo] 67))) := (by show Below _ _ _; go_grown); have hqk : q ∉ kk := hMk.out.mem.2 (by rcases hk9 : K q with _ | y; rfl; have := hI.out.dis q y hk9; rw [this] at hTq; cases hTq); have hMk4 := hMk3.below HNW3.out; obtain ⟨w5, hup, hMk5, hg5⟩ := hMk4.put (wfI_of (by omega) (by omega)) (k := x) (v := .agg #[.int .i64 q, .int .i64 x.1, .slice avo x.2.length cvo]) (mkIs_of (hno.later HNW3.out (Nat.le_refl _))) (by omega); rw [if_neg hqk] at hMk5; have HMK5 := hidP hMk5; have HMO5 := hidP ((hM3.below HNW3.out).grown hMk4 hg5 (Ne.symm hmne)); have zz3 := hg3.size; have zz5 := hg5.size; simp only [World.size_alloc] at zz5; have HBK5 : Hid (Blk w5 w3.heap.size #[.int .i64 q, .int .i64 x.1, .slice avo x.2.length cvo] 67) := (Blk.made w3 _ _).grown hg5 (by simp; omega); have HBM5 : Hid (Blk w5 w.heap.size #[.int .i64 z, .slice a l.length cap] 24) := (((bM.out.grown hg3 (by simp; omega)).alloc _).grown hg5 (by simp)); have HG5 : Hid (w.grownBy w5 (some mo)) := gMap (gTrans (gTrans hg.out hg3) (gNew HNW3.out)) hg5 (by omega); have HNX5 : Hid (Nums w5 (.slice avo x.2.length cvo) x.2) := Nums.keeps (hno.later HNW3.out (Nat.le_refl _)) (hMk4.keeps hg5); have m1 := HBM5.out.cell 1 (v := .slice a l.length cap) rfl; have k0 := HBK5.out.cell 0 (v := .int .i64 q) rfl; have k1 := HBK5.out.cell 1 (v := .int .i64 x.1) rfl; have k2 := HBK5.out.cell 2 (v := .slice avo x.2.length cvo) rfl; have zw3 : w3.heap.size < w5.heap.size := (by omega); obtain ⟨j, hj⟩ : ∃ j : Nat, q = (j : Int) := ⟨q.toNat, by omega⟩; subst hj; have hjn : j < l.length := (by omega); obtain ⟨sb, soff, va, hsa, hsb, _, s1, hArc⟩ := HCS.out j hjn; subst hsa; have s1 := (HM.out.keeps HG5.out) _ _ s1; obtain ⟨aa, ca, rfl⟩ := hArc.sl; have HARC := hidP hArc; have hj0 : (0 : Int) ≤ (j : Int) := (by omega); have hj1 : (j : Int) < (l.length : Int) := (by omega); clear hno hTq hmin hM3 hg3 hMk3 hMk4 hMk5 hg5 hArc hown)
    | go_in)
   have HAS : Hid (arcS (z, l) j = (el l j).2) := HSA.out j
   have HAR : Hid (∀ b, b ∈ (el l j).2 → 0 ≤ b.1 ∧ 0 ≤ b.2.1 ∧ b.2.1 ≤ 1000 ∧ 0 ≤ b.2.2.1 ∧ b.2.2.1 ≤ 1000000000 ∧ 0 ≤ b.2.2.2 ∧ b.2.2.2 < l.length) := fun b hb => by
    have := arcs_rng HFM.out (q := (j : Int)) (a := b) (by rw [HAS.out]; exact hb)
    exact this
   have HSTEP : Hid (DjI (z, l) T A B (setT K j x) (pshT (setT K j x) x (delT O j) (el l j).2) (kk ++ [(j : Int)]).length) := by
    have h := hI.out.step HFM.out HTq.out HMin.out
    rw [HAS.out] at h
    rw [List.length_append]
    exact h
   have hLA : (el l j).2.length * 32 ≤ 140737488351232 := HAL.out j hjn
   have HDO : Hid (DomT l.length (delT O j)) := fun p y hp => hI.out.dO p y (delT_some hp).2
   have hxb1 : 0 ≤ x.1 := hxb.1
   have hxb2 : x.1 ≤ 100000000000000 + 60000000000 := by have h9 := hxb.2.1; omega
   have hxb3 : x.2.length ≤ 100060 := by have h9 := hxb.2.2; omega
   have HKN : Hid (setT K j x = setT K j x) := rfl
   have hkk1 : (kk ++ [(j : Int)]).length ≤ 61 := by simp; omega
   have hkk2 : (kk ++ [(j : Int)]).length = kk.length + 1 := by simp
   have HTK : Hid ((el l j).2.take (el l j).2.length = (el l j).2) := List.take_length
   have HTK2 : Hid (∀ i, i < (el l j).2.length → ∀ O', pshT (setT K j x) x O' ((el l j).2.take (i + 1)) = pshA (setT K j x) x (pshT (setT K j x) x O' ((el l j).2.take i)) (el (el l j).2 i)) := fun i hi O' => pshT_take hi
   have HEL : Hid (∀ i, i < (el l j).2.length → el (el l j).2 i ∈ (el l j).2) := fun i hi => el_mem hi
   have HDP : Hid (∀ i, DomT l.length (pshT (setT K j x) x (delT O j) ((el l j).2.take i))) := fun i => pshT_dom HDO.out (fun b hb => by have := HAR.out b (List.mem_of_mem_take hb); omega)
   have HMSR : Hid (mapLen wr (w.heap.size + 1) = kk.length) := hMk.out.len
   clear HTq HMin hI HST HDO hxb hMk hMo HKE HSZ bM hg
   obtain ⟨aa', ca', hva, hac⟩ := HARC.out.get
   simp only [Value.slice.injEq, true_and] at hva
   obtain ⟨rfl, rfl⟩ := hva
   have HAC := hidP hac
   clear hac
   generalize setT K j x = K2 at *
   generalize kk ++ [(j : Int)] = kk2 at *
   generalize delT O j = O2 at *
   generalize (el l j).2 = la at *
   generalize hLa : la.length = La at *
   have HLA := hidP hLa
   clear hLa
   go_loopw [29] (fun i29 wi => ∃ (i : Nat) (ki : List Int), i ≤ La ∧ i29 = .int .i64 i ∧ Hid (MpK wi (w.heap.size + 1) K2 kk2) ∧ Hid (MpK wi mo (pshT K2 x O2 (la.take i)) ki) ∧ Hid (Blk wi w3.heap.size #[.int .i64 j, .int .i64 x.1, .slice avo x.2.length cvo] 67) ∧ Hid (Blk wi w.heap.size #[.int .i64 z, .slice (some ⟨sb, soff, none⟩) l.length cap] 24) ∧ Hid (Nums wi (.slice avo x.2.length cvo) x.2) ∧ w5.heap.size ≤ wi.heap.size ∧ Hid (w.grownBy wi (some mo))) (fun i29 _ => La - (intOf i29).toNat)
   case atStart => exact ⟨0, _, Nat.zero_le _, rfl, HMK5, HMO5, HBK5, HBM5, HNX5, Nat.le_refl _, HG5⟩
   case round =>
    clear HMK5 HMO5 HBK5 HBM5 HNX5 HG5 m1 k0 k1 k2 s1
    obtain ⟨i, ki, hi, rfl, hMK, hMO, bK, bM, hNX, hsi, hG⟩ := hrel
    have k0 := bK.out.cell 0 (v := .int .i64 (j : Int)) rfl
    have k1 := bK.out.cell 1 (v := .int .i64 x.1) rfl
    have k2 := bK.out.cell 2 (v := .slice avo x.2.length cvo) rfl
    have zk : w3.heap.size < wr.heap.size := by omega
    by_cases hlt : i < La
    ·have hi0 : (0 : Int) ≤ (i : Int) := by omega
     have hi1 : (i : Int) < (La : Int) := by omega
     obtain ⟨ab, aoff, rfl, hab, q0, q1, q2, q3⟩ := HAC.out i hlt
     have HKW : Hid (Keeps w wr) := HM.out.keeps hG.out
     have q0 := HKW.out _ _ q0
     have q1 := HKW.out _ _ q1
     have q2 := HKW.out _ _ q2
     have q3 := HKW.out _ _ q3
     have zab : ab < wr.heap.size := Nat.lt_of_lt_of_le hab hG.out.size
     obtain ⟨r0, r1, r1b, r2, r3, r4, r5⟩ := HAR.out _ (HEL.out i hlt)
     have HT2 : Hid (pshT K2 x O2 (la.take (i + 1)) = pshA K2 x (pshT K2 x O2 (la.take i)) (el la i)) := HTK2.out i hlt O2
     have hkil : ki.length ≤ 60 := Nat.le_trans (hMO.out.dom (HDP.out i)) h60
     have hab2 := hab
     clear hab
     generalize pshT K2 x O2 (la.take i) = Oi at *
     generalize el la i = b at *
     obtain ⟨b0, b1, b2, b3⟩ := b
     simp only at q0 q1 q2 q3 r0 r1 r1b r2 r3 r4 r5
     have HW6 : Hid (Below wr.heap.size wr (wr.alloc (.cells #[.int .i64 b0, .int .i64 b1, .int .i64 b2, .int .i64 b3] 75))) := by show Below _ _ _; go_grown
     have hw3f : wfI b3 := wfI_of (by omega) (by omega)
     rcases hK3 : K2 b3 with _ | y
     ·have hlk := ((hMK.out.below HW6.out).lookS hw3f).2 hK3
      have HW7 : Hid (Below wr.heap.size wr ((wr.alloc (.cells #[.int .i64 b0, .int .i64 b1, .int .i64 b2, .int .i64 b3] 75)).alloc (.cells #[.int .i64 0, .int .i64 0, .slice none 0 0] 67))) := by show Below _ _ _; go_grown
      by_cases hb0 : b0 = 0
      ·have HPA : Hid (pshA K2 x Oi (b0, b1, b2, b3) = putT Oi b3 (goA x (b0, b1, b2, b3))) := by show _ = _; unfold pshA; rw [if_pos ⟨hK3, hb0⟩]
       subst hb0
       go_wp2_with (first
        | (go_at_call 60; (with_reducible refine (along_any _ ((j : Int), x) (0, b1, b2, b3) _ (mkIs_of (hNX.out.later HW7.out (Nat.le_refl _))) (by simp only; omega) (by simp only; omega) (by simp only; omega) (by simp only; omega) (by simp only; omega)).mono ?_); rintro e w8 ⟨v8, rfl, ho8, hb8⟩; have HMO8 := hidP ((hMO.out.below HW7.out).below (hb8.mono (Nat.le_refl _))); have HB8 : Hid (Below wr.heap.size wr w8) := HW7.out.trans (hb8.mono HW7.out.size); obtain ⟨a8, c8, rfl⟩ := ho8.sl; have HMK9 : Hid (MkIs w8 (.agg #[.int .i64 b3, .int .i64 (goA x (0, b1, b2, b3)).1, .slice a8 (goA x (0, b1, b2, b3)).2.length c8]) (b3, goA x (0, b1, b2, b3))) := ⟨_, rfl, ho8.nums⟩; have HLN8 : Hid ((b3, goA x (0, b1, b2, b3)).2.2.length ≤ 1000000) := (by show _ ≤ _; have h9 := goA_len x (0, b1, b2, b3); simp only; omega); clear ho8 hb8)
        | (go_at_call 51; (with_reducible refine (put_any mo _ (b3, goA x (0, b1, b2, b3)) Oi ki _ HMO8.out HMK9.out hw3f (by omega) HLN8.out).mono ?_); rintro e w9 ⟨rfl, hM9, hg9⟩; have HMO10 : Hid (MpK w9 mo (pshT K2 x O2 (la.take (i + 1))) (addS ki b3)) := (by show MpK _ _ _ _; rw [HT2.out, HPA.out]; exact hM9); have hk8 := hMK.out.below HB8.out; have HMK10 := hidP (hk8.grown HMO8.out hg9 hmne); have HBK10 := hidP ((bK.out.below HB8.out bK.out.lt).grown hg9 (by simp; exact HMO8.out.ne (bK.out.below HB8.out bK.out.lt))); have HBM10 := hidP ((bM.out.below HB8.out bM.out.lt).grown hg9 (by simp; omega)); have HNX10 := hidP (Nums.keeps (hNX.out.later HB8.out (Nat.le_refl _)) (HMO8.out.keeps hg9)); have HG10 : Hid (w.grownBy w9 (some mo)) := gTrans (gTrans hG.out (gNew HB8.out)) hg9; have zz9 := hg9.size; have zz8 := HB8.out.size; clear hM9 hg9 hk8))
       go_roundw
       case rel => exact ⟨i + 1, _, by omega, by go_num, HMK10, HMO10, HBK10, HBM10, HNX10, by omega, HG10⟩
       case measure => simp [intOf]; omega
      ·have HPA : Hid (pshA K2 x Oi (b0, b1, b2, b3) = Oi) := by show _ = _; unfold pshA; rw [if_neg (fun h => hb0 h.2)]
       go_wp2
       go_roundw
       case rel => exact ⟨i + 1, ki, by omega, by go_num, hMK.out.below HW7.out, by rw [HT2.out, HPA.out]; exact hMO.out.below HW7.out, bK.out.below HW7.out bK.out.lt, bM.out.below HW7.out bM.out.lt, hNX.out.later HW7.out (Nat.le_refl _), by simp; omega, gTrans hG.out (gNew HW7.out)⟩
       case measure => simp [intOf]; omega
     ·obtain ⟨ao, co, hlk, hno⟩ := ((hMK.out.below HW6.out).lookS hw3f).1 _ hK3
      clear hno
      have HW7 : Hid (Below wr.heap.size wr ((wr.alloc (.cells #[.int .i64 b0, .int .i64 b1, .int .i64 b2, .int .i64 b3] 75)).alloc (.cells #[.int .i64 b3, .int .i64 y.1, .slice ao y.2.length co] 67))) := by show Below _ _ _; go_grown
      have HPA : Hid (pshA K2 x Oi (b0, b1, b2, b3) = Oi) := by show _ = _; unfold pshA; rw [if_neg (fun h => by rw [hK3] at h; cases h.1)]
      go_wp2
      go_roundw
      case rel => exact ⟨i + 1, ki, by omega, by go_num, hMK.out.below HW7.out, by rw [HT2.out, HPA.out]; exact hMO.out.below HW7.out, bK.out.below HW7.out bK.out.lt, bM.out.below HW7.out bM.out.lt, hNX.out.later HW7.out (Nat.le_refl _), by simp; omega, gTrans hG.out (gNew HW7.out)⟩
      case measure => simp [intOf]; omega
    ·have hnl : ¬ (i : Int) < (La : Int) := by omega
     have hil : i = La := by omega
     have HMOE : Hid (MpK wr mo (pshT K2 x O2 la) ki) := by
      have h := hMO.out
      rw [hil, HTK.out] at h
      exact h
     clear k0 k1 k2
     go_wp2
     go_roundw
     case rel => exact ⟨K2, _, kk2, ki, HSTEP, hMK, HMOE, bM, by omega, hG⟩
     case measure => rw [hMK.out.len, HMSR.out]; omega
end Go.Proofs.Ytkeeiihaijhdoaa.Sm
namespace Go.Proofs.Ytkeeiihaijhdoaa.Sm
open Go.ChangeShapes Go.WideShapes Go.ChangeAt Go.RowKit
open Go.Proofs.Ytkeeiihaijhdoaa.Pl Go.Proofs.Ytkeeiihaijhdoaa.Wt
set_option linter.unusedVariables false
set_option linter.unusedSimpArgs false
def OwnM (w : World) (base : Nat) (v : Value) (l : List Mk) : Prop :=
 ∃ vs : List MkV, w.ownsRow base 67 3 v vs.length (vs.flatMap encM) ∧ vs.length = l.length ∧ ∀ j, j < l.length → (el vs j).1 = (el l j).1 ∧ (el vs j).2.1 = (el l j).2.1 ∧ OwnN w base (el vs j).2.2 (el l j).2.2
theorem OwnM.nil (w : World) (base : Nat) : OwnM w base (.slice none 0 0) [] := ⟨[], World.ownsRow_nil _ _ _ _, rfl, by simp⟩
theorem OwnM.marks {w : World} {base : Nat} {v : Value} {l : List Mk} (h : OwnM w base v l) : Marks w v l := by
 obtain ⟨vs, h1, h2, h3⟩ := h
 exact ⟨vs, Row.ofOwn encM_len h1 rfl, h2, fun j hj => ⟨(h3 j hj).1, (h3 j hj).2.1, (h3 j hj).2.2.nums⟩⟩
theorem OwnM.sl {w : World} {base : Nat} {v : Value} {l : List Mk} (h : OwnM w base v l) : ∃ a c, v = .slice a l.length c := h.marks.sl
theorem OwnM.later {w w' : World} {base : Nat} {v : Value} {l : List Mk} (h : OwnM w base v l) (hb : Below w.heap.size w w') : OwnM w' base v l := by
 obtain ⟨vs, h1, h2, h3⟩ := h
 exact ⟨vs, ownBelow h1 hb, h2, fun j hj => ⟨(h3 j hj).1, (h3 j hj).2.1, (h3 j hj).2.2.later hb⟩⟩
theorem OwnM.mono {w : World} {base base' : Nat} {v : Value} {l : List Mk} (h : OwnM w base v l) (hb : base' ≤ base) : OwnM w base' v l := by
 obtain ⟨vs, h1, h2, h3⟩ := h
 exact ⟨vs, ownMono h1 hb, h2, fun j hj => ⟨(h3 j hj).1, (h3 j hj).2.1, (h3 j hj).2.2.mono hb⟩⟩
theorem OwnM.set {w : World} {base : Nat} {v : Value} {l : List Mk} (h : OwnM w base v l) {a : Addr} (ha : a.block < base) (u : Value) : OwnM (w.setCell a u) base v l := by
 obtain ⟨vs, h1, h2, h3⟩ := h
 exact ⟨vs, ownsRow_setCell_below h1 ha u, h2, fun j hj => ⟨(h3 j hj).1, (h3 j hj).2.1, (h3 j hj).2.2.set ha u⟩⟩
theorem OwnM.push {W : World} {base : Nat} {vo va : Value} {l : List Mk} (hown : OwnM W base vo l) (k : Mk) (hva : OwnN W base va k.2.2) (hl : (l.length + 1) * 40 ≤ 140737488355328) (hbase : base ≤ W.heap.size) :
  ∃ a c w3, (Builtin.append_ #[26, 26] 26 #[vo, .slice (some ⟨W.heap.size, 0, none⟩) 1 1]).run Try.prog (W.alloc (.cells #[.int .i64 k.1, .int .i64 k.2.1, va] 67)) = .ok (.slice a (l.length + 1) c) w3 ∧ OwnM w3 base (.slice a (l.length + 1) c) (l ++ [k]) ∧ Below base W w3 := by
 obtain ⟨i1, hi1, hy0, hy1, hy2⟩ := info_parts infoMark
 obtain ⟨vs, q1, q2, q3⟩ := hown
 have hg : W.grownBy (W.alloc (.cells #[.int .i64 k.1, .int .i64 k.2.1, va] 67)) none := ⟨rfl, rfl, rfl, by simp, fun k hk _ => Below.heap_alloc W _ k hk⟩
 have e0 : (W.alloc (.cells #[.int .i64 k.1, .int .i64 k.2.1, va] 67)).heap[W.heap.size]? = some (.cells #[.int .i64 k.1, .int .i64 k.2.1, va] 67 (0, 0)) := Blk.made W _ _
 have kn : ∀ v : Value, v.ownBlock = none ∨ v.ownBlock ≠ none := fun v => by rcases v.ownBlock with _ | _ <;> simp
 have hvo := q1.kept hg (kn _)
 obtain ⟨v3, w3, hr, h1, h2, _⟩ := run_append_own (P := Try.prog) (W.alloc (.cells #[.int .i64 k.1, .int .i64 k.2.1, va] 67)) base 26 26 67 i1 _ 3 40 Try.underlying26 hi1 hy0 hy1 hy2 rfl (by omega) vo vs.length (vs.flatMap encM) hvo ⟨W.heap.size, 0, none⟩ 1 1 [.int .i64 k.1, .int .i64 k.2.1, va] rfl (World.news_of_block (cs := #[.int .i64 k.1, .int .i64 k.2.1, va]) e0) (by
  intro u hu
  simp at hu
  rcases hu with rfl | rfl | rfl
  ·rfl
  ·rfl
  ·exact own_one hva) (by rw [q2]; unfold maxLen; omega) (by rw [q2]; exact hl) (by simp; omega)
 have hO : OwnM w3 base v3 (l ++ [k]) := by
  refine ⟨vs ++ [(k.1, k.2.1, va)], by simpa [encM] using h1, by simp [q2], ?_⟩
  intro j hj
  have hj' : j < l.length ∨ j = l.length := by simp at hj; omega
  rcases hj' with hj' | rfl
  ·rw [el_left (by omega), el_left hj']
   have := World.ownsRow.kept (q3 j hj').2.2 hg (kn _)
   exact ⟨(q3 j hj').1, (q3 j hj').2.1, World.ownsRow.kept this h2 (own_apart this hvo (by decide))⟩
  ·rw [el_last, ← q2, el_last]
   have := World.ownsRow.kept hva hg (kn _)
   exact ⟨rfl, rfl, World.ownsRow.kept this h2 (own_apart this hvo (by decide))⟩
 obtain ⟨a, c, hv⟩ := hO.sl
 rw [List.length_append, List.length_singleton] at hv
 subst hv
 exact ⟨a, c, w3, hr, hO, ((Below.refl _ _).grown hg hbase (by simp)).grown h2 (by simp; omega) (own_geK hvo)⟩
end Go.Proofs.Ytkeeiihaijhdoaa.Sm
namespace Go.Proofs.Ytkeeiihaijhdoaa.Sm
open Go.ChangeShapes Go.WideShapes Go.ChangeAt Go.RowKit Go.Maps
open Go.Proofs.Ytkeeiihaijhdoaa.Pl Go.Proofs.Ytkeeiihaijhdoaa.Wt
set_option linter.unusedVariables false
set_option linter.unusedSimpArgs false
theorem ordL_len (n : Nat) (T : Tbl) : (ordL n T).length ≤ n := by
 unfold ordL
 have := List.length_filterMap_le (fun q : Nat => (T (q : Int)).map fun k => ((q : Int), k)) (List.range n)
 simpa using this
set_option maxRecDepth 100000 in
set_option maxHeartbeats 1600000 in
theorem inOrder_any (v : Value) (mc : Mc) (m : Nat) (K : Tbl) (kk : List Int) (w : World) (h : Mach w v mc) (h60 : mc.2.length ≤ 60) (hM : MpK w m K kk) (hs : ∀ q k, K q = some k → k.2.length ≤ 1000000) :
  Calls Try.prog 30 #[.map (some m), v] w fun e w' => ∃ v', e = .returned v' ∧ OwnM w' w.heap.size v' (ordL mc.2.length K) ∧ Below w.heap.size w w' := by
 have HM := hidP hM
 have HSZ := hidP hs
 obtain ⟨z, l⟩ := mc
 obtain ⟨vs, rfl, hS⟩ := h
 obtain ⟨a, cap, rfl⟩ := hS.sl
 clear hS hM hs
 simp only at h60 ⊢
 generalize l.length = n at *
 have HSU : Hid (∀ k, ordL (k + 1) K = ordL k K ++ (match K (k : Int) with | none => [] | some y => [((k : Int), y)])) := fun k => ordL_succ k K
 have HOL : Hid (∀ k, (ordL k K).length ≤ k) := fun k => ordL_len k K
 have HO0 : Hid (ordL 0 K = []) := rfl
 go_enter Try.func30, Try.ntmps30
 go_wp2
 go_loopw [5, 12] (fun s5 i wr => ∃ (k : Nat), k ≤ n ∧ i = .int .i64 k ∧ Hid (OwnM wr (w.heap.size + 1) s5 (ordL k K)) ∧ Hid (Blk wr w.heap.size #[.int .i64 z, .slice a n cap] 24) ∧ w.heap.size + 1 ≤ wr.heap.size ∧ Hid (Below w.heap.size w wr)) (fun _ i _ => n - (intOf i).toNat)
 case atStart => exact ⟨0, Nat.zero_le _, rfl, OwnM.nil _ _, Blk.made _ _ _, by simp, by show Below _ _ _; go_grown⟩
 case round =>
  obtain ⟨k, hk, rfl, hown, bM, hsz, hb⟩ := hrel
  rename_i s5
  obtain ⟨ar, cr, hvo⟩ := hown.out.sl
  subst hvo
  by_cases hlt : k < n
  ·have hk0 : (0 : Int) ≤ (k : Int) := by omega
   have hk1 : (k : Int) < (n : Int) := by omega
   have hLk := HOL.out k
   have HSk := hidP (HSU.out k)
   have hwf : wfI (k : Int) := wfI_of (by omega) (by omega)
   rcases hT : K (k : Int) with _ | ⟨c, o⟩
   ·have hlk := ((HM.out.below (hb.out.mono (Nat.le_refl _))).lookS hwf).2 hT
    have HN : Hid (ordL (k + 1) K = ordL k K) := by show _ = _; rw [HSk.out, hT]; simp
    go_wp2
    go_roundw
    case rel => exact ⟨k + 1, by omega, by go_num, by rw [HN.out]; exact hown.out.later ((Below.refl _ _).alloc (Nat.le_refl _) _), bM.out.alloc _, by simp; omega, by show Below _ _ _; have h9 := hb.out; go_grown⟩
    case measure => simp [intOf]; omega
   ·obtain ⟨ao, co, hlk, hno⟩ := ((HM.out.below (hb.out.mono (Nat.le_refl _))).lookS hwf).1 _ hT
    have HN : Hid (ordL (k + 1) K = ordL k K ++ [((k : Int), c, o)]) := by show _ = _; rw [HSk.out, hT]
    have ho8 : o.length ≤ 1000000 := HSZ.out _ _ hT
    simp only at hlk hno
    have HW7 : Hid (Below wr.heap.size wr (wr.alloc (.cells #[.int .i64 (k : Int), .int .i64 c, .slice ao o.length co] 67))) := by show Below _ _ _; go_grown
    have HNO := hidP hno
    clear hno hT HSk
    generalize hL : (ordL k K).length = L at *
    have HLL := hidP hL
    clear hL
    go_wp2_with (first
     | (go_at_call 53; (with_reducible refine (copied_any _ ((k : Int), c, o) _ (mkIs_of (HNO.out.later HW7.out (Nat.le_refl _))) (by simp only; omega)).mono ?_); rintro e w8 ⟨v8, rfl, ho, hb8⟩; obtain ⟨a8, c8, rfl⟩ := ho.sl; have HB8 : Hid (Below wr.heap.size wr w8) := HW7.out.trans (hb8.mono HW7.out.size); have zz8 := HB8.out.size; obtain ⟨a9, c9, w9, r9, o9, hb9⟩ := (hown.out.later HB8.out).push ((k : Int), c, o) (va := .slice a8 o.length c8) (ho.mono (by simp; omega)) (by rw [HLL.out]; omega) (by omega); rw [HLL.out] at r9 o9; simp only at r9; have HR9 := hidP r9; have HO9 : Hid (OwnM w9 (w.heap.size + 1) (.slice a9 (L + 1) c9) (ordL (k + 1) K)) := (by show OwnM _ _ _ _; rw [HN.out]; exact o9); have HBM9 := hidP ((bM.out.below HB8.out bM.out.lt).below hb9 (by omega)); have HB9 : Hid (Below w.heap.size w w9) := hb.out.trans ((HB8.out.mono hb.out.size).trans (hb9.mono (by omega))); have zz9 := hb9.size; clear ho hb8 r9 o9 hb9)
     | (at_builtin; refine wpListAppendRun rfl _ _ 26 rfl rfl rfl HR9.out ?_; clear HR9))
    go_roundw
    case rel => exact ⟨k + 1, by omega, by go_num, HO9, HBM9, by omega, HB9⟩
    case measure => simp [intOf]; omega
  ·have hnl : ¬ (k : Int) < (n : Int) := by omega
   have hkn : k = n := by omega
   subst hkn
   go_wp2
   go_ret
   exact ⟨_, rfl, hown.out.mono (by omega), hb.out⟩
theorem addS_len (ks : List Int) (q : Int) : (addS ks q).length ≤ ks.length + 1 := by unfold addS; split <;> simp
set_option maxRecDepth 100000 in
set_option maxHeartbeats 1600000 in
theorem marksOf_any (v : Value) (r : Ru) (w : World) (h : RunV w v r) (hl : r.2.length ≤ 1000) (hs : ∀ j, j < r.2.length → (el r.2 j).2.2.length ≤ 1000000 ∧ 0 ≤ (el r.2 j).1 ∧ (el r.2 j).1 ≤ 1000) :
  Calls Try.prog 37 #[v] w fun e w' => ∃ (mk : Nat) (kk : List Int), e = .returned (.map (some mk)) ∧ MpK w' mk (tblT r.2) kk ∧ Below w.heap.size w w' := by
 obtain ⟨f, ml⟩ := r
 obtain ⟨vm, rfl, hMk⟩ := h
 obtain ⟨am, cm, rfl, hc⟩ := hMk.get
 have HC : Hid (∀ j, j < ml.length → ∃ b off vo, am = some ⟨b, off, none⟩ ∧ b < w.heap.size ∧ w.cell? ⟨b, off + j * 3, none⟩ = some (.int .i64 (el ml j).1) ∧ w.cell? ⟨b, off + j * 3 + 1, none⟩ = some (.int .i64 (el ml j).2.1) ∧ w.cell? ⟨b, off + j * 3 + 2, none⟩ = some vo ∧ Nums w vo (el ml j).2.2) := hc
 have HSZ := hidP hs
 have HTK : Hid (∀ i, i < ml.length → tblT (ml.take (i + 1)) = putT (tblT (ml.take i)) (el ml i).1 (el ml i).2) := fun i hi => tblT_take hi
 have HT0 : Hid (tblT (ml.take 0) = fun _ => none) := rfl
 have HTE : Hid (tblT (ml.take ml.length) = tblT ml) := by show _ = _; rw [List.take_length]
 clear hMk hc hs
 simp only at hl HSZ ⊢
 generalize tblT ml = TT at *
 generalize ml.length = n at *
 have hmk := @run_makeMap Try.prog
 have HM0 : Hid (MpK ((w.alloc (.cells #[.int .i64 f, .slice am n cm] 28)).alloc (.map #[] 0)) (w.heap.size + 1) (fun _ => none) []) := by
  have h := MpK.made (w.alloc (.cells #[.int .i64 f, .slice am n cm] 28))
  simp only [World.size_alloc] at h
  exact h
 go_enter Try.func37, Try.ntmps37
 go_wp2
 go_loopw [10] (fun i wr => ∃ (k : Nat) (ks : List Int), k ≤ n ∧ i = .int .i64 k ∧ Hid (MpK wr (w.heap.size + 1) (tblT (ml.take k)) ks) ∧ ks.length ≤ k ∧ w.heap.size + 2 ≤ wr.heap.size ∧ Hid (Below w.heap.size w wr)) (fun i _ => n - (intOf i).toNat)
 case atStart => exact ⟨0, [], Nat.zero_le _, rfl, by rw [HT0.out]; exact HM0.out, by simp, by simp, by show Below _ _ _; go_grown⟩
 case round =>
  clear HM0
  obtain ⟨k, ks, hk, rfl, hM, hks, hsz, hb⟩ := hrel
  by_cases hlt : k < n
  ·have hk0 : (0 : Int) ≤ (k : Int) := by omega
   have hk1 : (k : Int) < (n : Int) := by omega
   obtain ⟨b, off, vo, rfl, hbl, g0, g1, g2, hno⟩ := HC.out k hlt
   obtain ⟨ao, co, rfl⟩ := Row.sl hno
   have g0 := (hb.out.cell (p := ⟨b, off + k * 3, none⟩) hbl).trans g0
   have g1 := (hb.out.cell (p := ⟨b, off + k * 3 + 1, none⟩) hbl).trans g1
   have g2 := (hb.out.cell (p := ⟨b, off + k * 3 + 2, none⟩) hbl).trans g2
   have HNO := hidP hno
   have zb : b < wr.heap.size := Nat.lt_of_lt_of_le hbl hb.out.size
   obtain ⟨s0, s1, s2⟩ := HSZ.out k hlt
   have HT1 := hidP (HTK.out k hlt)
   clear hno hbl
   generalize el ml k = p at *
   obtain ⟨p0, p1, p2⟩ := p
   simp only at g0 g1 g2 s0 s1 s2 HNO HT1
   have HW : Hid (Below wr.heap.size wr (wr.alloc (.cells #[.int .i64 p0, .int .i64 p1, .slice ao p2.length co] 67))) := by show Below _ _ _; go_grown
   have HMW := hidP (hM.out.below HW.out)
   go_wp2_with (first
    | (go_at_call 51; (with_reducible refine (put_any (w.heap.size + 1) _ (p0, p1, p2) _ ks _ HMW.out (mkIs_of (HNO.out.later (hb.out.trans (HW.out.mono hb.out.size)) (Nat.le_refl _))) (wfI_of (by simp only; omega) (by simp only; omega)) (by omega) s0).mono ?_); rintro e w1 ⟨rfl, hM1, hg1⟩; have HM1 : Hid (MpK w1 (w.heap.size + 1) (tblT (ml.take (k + 1))) (addS ks p0)) := (by show MpK _ _ _ _; rw [HT1.out]; exact hM1); have HB1 : Hid (Below w.heap.size w w1) := hb.out.trans ((HW.out.mono hb.out.size).trans (gBelow hg1 (by simp) (by simp; omega))); have hl1 := addS_len ks p0; have zz := hg1.size; simp only [World.size_alloc] at zz; clear hM1 hg1))
   go_roundw
   case rel => exact ⟨k + 1, _, by omega, by go_num, HM1, by omega, by omega, HB1⟩
   case measure => simp [intOf]; omega
  ·have hnl : ¬ (k : Int) < (n : Int) := by omega
   have hkn : k = n := by omega
   have HMT : Hid (MpK wr (w.heap.size + 1) TT ks) := by
    show MpK _ _ _ _
    have h := hM.out
    rw [hkn, HTE.out] at h
    exact h
   go_wp2
   go_ret
   exact ⟨_, rfl, ⟨ks, HMT.out⟩, hb.out⟩
end Go.Proofs.Ytkeeiihaijhdoaa.Sm
