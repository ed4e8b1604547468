/- Small laws: several operations may come up; one arc more. -/
import Derived.Test.YtkeeiihaijhdoaaCab
import Derived.Test.YtkeeiihaijhdoaaCaj
import Derived.Test.YtkeeiihaijhdoaaCaf
import Derived.Test.YtkeeiihaijhdoaaCag
import Derived.Test.YtkeeiihaijhdoaaCaa
namespace Go.Proofs.Ytkeeiihaijhdoaa.Wt
open Go.ChangeShapes Go.WideShapes Go.ChangeAt Go.RowKit
open Go.Proofs.Ytkeeiihaijhdoaa.Pl
set_option linter.unusedVariables false
set_option linter.unusedSimpArgs false
section
variable {P : Program} {ops : Array Oper} {Q : Exit → Act → World → Prop} {md : Region.Mode} {S : World → Prop} {L : Nat}
theorem anyL_br {rs : List Nat} {n : Nat} {listed : Array Bool} {a : Act} {w : World} (hr : Region.ready md ops listed = rs) (hne : rs ≠ [])
  (h : ∀ i ∈ rs, ∃ o, ops[i]? = some o ∧ o.guard = none ∧ ∀ K : Act → World → Prop, (∀ b x, (i = L ∨ S x) → AnyL P md ops Q S L n (listed.setIfInBounds i true) b x → K b x) → Oper.wp P o a w K Q) : AnyL P md ops Q S L (n + 1) listed a w := by
 refine ⟨fun h0 => absurd (hr ▸ h0) hne, ?_⟩
 rw [hr]
 intro j hj
 obtain ⟨o, hi, hg, h⟩ := h j hj
 refine wpOp_step hi (fun K hK => ?_)
 have hw : Region.wanted o (yielded ops a.tmps) = true := by simp [Region.wanted, hg]
 rw [if_pos hw]
 exact h K (fun b x h1 h2 => hK b x ⟨h1, h2⟩)
end
theorem own_mono' {w : World} {base base' : Nat} {e : TypeId} {s : Nat} {v : Value} {n : Nat} {xs : List Value} (h : w.ownsRow base e s v n xs) (hb : base' ≤ base) : w.ownsRow base' e s v n xs := by
 refine ⟨h.1, ?_⟩
 rcases h.2 with h2 | ⟨g, cap, cur, hv, hg, h3⟩
 ·exact .inl h2
 ·exact .inr ⟨g, cap, cur, hv, Nat.le_trans hb hg, h3⟩
theorem one_arc (w : World) (p : Ar) : Row 4 encA (w.alloc (.cells #[.int .i64 p.1, .int .i64 p.2.1, .int .i64 p.2.2.1, .int .i64 p.2.2.2] 75)) (.slice (some ⟨w.heap.size, 0, none⟩) 1 1) [p] := by
 refine .inr ⟨⟨w.heap.size, 0, none⟩, 1, rfl, fun j hj i u hu => ?_⟩
 have hj0 : j = 0 := by simp at hj; exact hj
 subst hj0
 rw [Addr.add_lit]
 refine (Blk.made w _ _).cell _ ?_
 rw [Nat.zero_mul, Nat.zero_add, Nat.zero_add]
 rw [el_zero] at hu
 simpa [encA] using hu
theorem own_snoc {w : World} {base : Nat} {v : Value} {n : Nat} {l : List Ar} {p : Ar} (h : w.ownsRow base 75 4 v (n + [p].length) (l.flatMap encA ++ [p].flatMap encA)) (hn : n = l.length) : w.ownsRow base 75 4 v (l ++ [p]).length ((l ++ [p]).flatMap encA) := by
 subst hn
 rw [List.length_append, List.flatMap_append]
 exact h
theorem snoc_facts {w w' : World} {base : Nat} {vo v : Value} {l : List Ar} {p : Ar} {ob : Obj} (ho : w.ownsRow base 75 4 vo l.length (l.flatMap encA)) (hs : base ≤ w.heap.size) (h : w'.ownsRow base 75 4 v (l.length + [p].length) (l.flatMap encA ++ [p].flatMap encA)) (hg : (w.alloc ob).grownBy w' vo.ownBlock) :
  Hid (w'.ownsRow base 75 4 v (l ++ [p]).length ((l ++ [p]).flatMap encA)) ∧ Hid (Below base w w') ∧ Hid (base ≤ w'.heap.size) := by
 have hb : Below base w w' := ((Below.refl _ _).alloc hs ob).grown hg (by simp; omega) (own_geK ho)
 exact ⟨own_snoc h rfl, hb, Nat.le_trans hs hb.size⟩
end Go.Proofs.Ytkeeiihaijhdoaa.Wt
namespace Go.Proofs.Ytkeeiihaijhdoaa.Sm
open Go.ChangeShapes Go.WideShapes Go.ChangeAt Go.RowKit
open Go.Proofs.Ytkeeiihaijhdoaa.Pl Go.Proofs.Ytkeeiihaijhdoaa.Wt
set_option linter.unusedVariables false
set_option linter.unusedSimpArgs false
theorem el_ext {α : Type} [Inhabited α] {a b : List α} (h : a.length = b.length) (he : ∀ j, j < a.length → el a j = el b j) : a = b := by
 apply List.ext_getElem h
 intro i h1 h2
 have := he i h1
 rwa [el_get h1, el_get h2] at this
theorem runB_el {n : Int} {r : Ru} (h : runB n r = true) : ∀ j, j < r.2.length → 0 ≤ (el r.2 j).1 ∧ (el r.2 j).1 < n ∧ 0 ≤ (el r.2 j).2.1 ∧ (el r.2 j).2.1 ≤ 1000000000 ∧ (el r.2 j).2.2.length ≤ 800 := by
 intro j hj
 simp only [runB, Bool.and_eq_true] at h
 have h1 := risB_el h.1.2 j hj
 have h2 := List.all_eq_true.1 h.2 _ (el_mem hj)
 simp only [mkB, inB, Bool.and_eq_true, decide_eq_true_eq] at h2
 exact ⟨h1.1, h1.2, h2.1.1.1, h2.1.1.2, h2.1.2⟩
theorem fin_rng {z : Int} {l : List St} (h : faultM (z, l) = 0) {j : Nat} (hj : j < l.length) : 0 ≤ (el l j).1 ∧ (el l j).1 ≤ 1000000001 ∧ ((el l j).1 ≠ 1000000001 → (el l j).1 ≤ 1000000000) := by
 have h1 := (right_st h hj).1
 simp only [finB, inB, Bool.or_eq_true, Bool.and_eq_true, decide_eq_true_eq, beq_iff_eq] at h1
 omega
set_option maxRecDepth 100000 in
set_option maxHeartbeats 3200000 in
theorem bestEnd_any (v vr : Value) (m : Mc) (r : Ru) (w : World) (h : Mach w v m) (hok : okM m) (hr : RunV w vr r) (hou : okU r) (hf : faultM m = 0) (hrun : runB m.2.length r = true) :
  Calls Try.prog 43 #[v, vr] w fun e w' => ∃ (q c : Int) (vo : Value) (o : List Int), e = .returned (.tuple #[.agg #[.int .i64 q, .int .i64 c, vo], .bool (endL (finS m) r.2).isSome]) ∧ Nums w' vo o ∧ (∀ b, endL (finS m) r.2 = some b → b = (c, o)) ∧ Below w.heap.size w w' := by
 have HRE := hidP (runB_el hrun)
 obtain ⟨z, l⟩ := m
 obtain ⟨vs, rfl, hS⟩ := h
 obtain ⟨a, cap, rfl, hcs⟩ := hS.get
 obtain ⟨f, ml⟩ := r
 obtain ⟨vm, rfl, hMk⟩ := hr
 obtain ⟨am, cm, rfl, hc⟩ := hMk.get
 have HC : Hid (∀ j, j < ml.length → ∃ b off vo, am = some ⟨b, off, none⟩ ∧ b < w.heap.size ∧ w.cell? ⟨b, off + j * 3, none⟩ = some (.int .i64 (el ml j).1) ∧ w.cell? ⟨b, off + j * 3 + 1, none⟩ = some (.int .i64 (el ml j).2.1) ∧ w.cell? ⟨b, off + j * 3 + 2, none⟩ = some vo ∧ Nums w vo (el ml j).2.2) := hc
 have HCS : Hid (∀ j, j < l.length → ∃ b off va, a = some ⟨b, off, none⟩ ∧ b < w.heap.size ∧ w.cell? ⟨b, off + j * 2, none⟩ = some (.int .i64 (el l j).1) ∧ w.cell? ⟨b, off + j * 2 + 1, none⟩ = some va ∧ Arcs w va (el l j).2) := hcs
 have HF : Hid (∀ j, j < l.length → 0 ≤ (el l j).1 ∧ (el l j).1 ≤ 1000000001 ∧ ((el l j).1 ≠ 1000000001 → (el l j).1 ≤ 1000000000)) := fun j hj => fin_rng hf hj
 have h60 : l.length ≤ 60 := (right_size hf).1
 have hL40 : ml.length * 40 ≤ 140737488351232 := hou.1
 have HFS : Hid (∀ j : Nat, finS (z, l) j = (el l j).1) := fun j => by simp [finS]
 have HT : Hid (∀ k, k < ml.length → endL (finS (z, l)) (ml.take (k + 1)) = endK (finS (z, l)) (endL (finS (z, l)) (ml.take k)) (el ml k)) := fun k hk => endL_take hk
 have HE : Hid (endL (finS (z, l)) (ml.take ml.length) = endL (finS (z, l)) ml) := by show _ = _; rw [List.take_length]
 have H0 : Hid (endL (finS (z, l)) (ml.take 0) = none) := rfl
 clear hS hok hou hMk hc hcs hf hrun
 simp only at HRE ⊢
 have hnot : ∀ (x : Bool) (w : World), (Op.unary .not (.bool x)).run Try.prog w = .ok (.bool (!x)) w := fun _ _ => rfl
 generalize endL (finS (z, l)) ml = R at *
 generalize finS (z, l) = F at *
 generalize ml.length = L at *
 generalize l.length = n at *
 go_enter Try.func43, Try.ntmps43
 go_wp2
 go_loopw [7, 14] (fun s7 i wr => ∃ (k : Nat) (q c : Int) (vo : Value) (o : List Int) (acc : Option Ky) (fd : Bool), k ≤ L ∧ Hid (endL F (ml.take k) = acc) ∧ Hid (acc.isSome = fd) ∧ s7 = .bool fd ∧ i = .int .i64 k ∧ Hid (Blk wr (w.heap.size + 3) #[.int .i64 q, .int .i64 c, vo] 67) ∧ Hid (Nums w vo o) ∧ Hid (∀ b, acc = some b → b = (c, o)) ∧ o.length ≤ 800 ∧ Hid (Blk wr w.heap.size #[.int .i64 z, .slice a n cap] 24) ∧ Hid (Blk wr (w.heap.size + 2) #[.int .i64 0, .int .i64 0, .slice none 0 0] 67) ∧ w.heap.size + 4 ≤ wr.heap.size ∧ Hid (Below w.heap.size w wr)) (fun _ i _ => L - (intOf i).toNat)
 case atStart => exact ⟨0, 0, 0, .slice none 0 0, [], none, false, Nat.zero_le _, H0, rfl, rfl, rfl, by (have h := Blk.made (((w.alloc (.cells #[.int .i64 z, .slice a n cap] 24)).alloc (.cells #[.int .i64 f, .slice am L cm] 28)).alloc (.cells #[.int .i64 0, .int .i64 0, .slice none 0 0] 67)) #[.int .i64 0, .int .i64 0, .slice none 0 0] 67; simp only [World.size_alloc] at h; exact h), .inl ⟨rfl, rfl⟩, (by intro b hb; cases hb), by simp, ((Blk.made w _ _).alloc _).alloc _ |>.alloc _, by (have h := Blk.made ((w.alloc (.cells #[.int .i64 z, .slice a n cap] 24)).alloc (.cells #[.int .i64 f, .slice am L cm] 28)) #[.int .i64 0, .int .i64 0, .slice none 0 0] 67; simp only [World.size_alloc] at h; exact h.alloc _), by simp, by show Below _ _ _; go_grown⟩
 case round =>
  obtain ⟨k, q, c, vo, o, acc, fd, hk, hacc, hfd, rfl, rfl, bB, hno, hag, ho8, bM, b4, hs, hb⟩ := hrel
  obtain ⟨avo, cvo, rfl⟩ := Row.sl hno.out
  have d0 := bB.out.cell 0 (v := .int .i64 q) rfl
  have d1 := bB.out.cell 1 (v := .int .i64 c) rfl
  have d2 := bB.out.cell 2 (v := .slice avo o.length cvo) rfl
  have hf0 := bB.out.fz 0
  have hf1 := bB.out.fz 1
  have hf2 := bB.out.fz 2
  have z0 : w.heap.size < wr.heap.size := by omega
  have z2 : w.heap.size + 2 < wr.heap.size := by omega
  have z3 : w.heap.size + 3 < wr.heap.size := by omega
  by_cases hlt : k < L
  ·have m1 := bM.out.cell 1 (v := .slice a n cap) rfl
   obtain ⟨b, off, vi, rfl, hbl, g0, g1, g2, hN⟩ := HC.out k hlt
   obtain ⟨r0, r1, r2, r3, r4⟩ := HRE.out k hlt
   obtain ⟨j, hj⟩ : ∃ j : Nat, (el ml k).1 = (j : Int) := ⟨(el ml k).1.toNat, by omega⟩
   have hjn : j < n := by omega
   obtain ⟨sb, soff, sva, rfl, hsb, s0, s1, _⟩ := HCS.out j hjn
   have g0 := (hb.out.cell (p := ⟨b, off + k * 3, none⟩) hbl).trans g0
   have g1 := (hb.out.cell (p := ⟨b, off + k * 3 + 1, none⟩) hbl).trans g1
   have g2 := (hb.out.cell (p := ⟨b, off + k * 3 + 2, none⟩) hbl).trans g2
   have s0 := (hb.out.cell (p := ⟨sb, soff + j * 2, none⟩) hsb).trans s0
   have zb : b < wr.heap.size := Nat.lt_of_lt_of_le hbl hb.out.size
   have zs : sb < wr.heap.size := Nat.lt_of_lt_of_le hsb hb.out.size
   have HT1 : Hid (endL F (ml.take (k + 1)) = endK F acc (el ml k)) := by show _ = _; rw [HT.out k hlt, hacc.out]
   obtain ⟨f0, f1, f2⟩ := HF.out j hjn
   have hFj : F (el ml k).1 = (el l j).1 := by rw [hj]; exact HFS.out j
   obtain ⟨ao, co, rfl⟩ := Row.sl hN
   have HN : Hid (Nums w (.slice ao (el ml k).2.2.length co) (el ml k).2.2) := hN
   have hk0 : (0 : Int) ≤ (k : Int) := by omega
   have hk1 : (k : Int) < (L : Int) := by omega
   have hj0 : (0 : Int) ≤ (j : Int) := by omega
   have hj1 : (j : Int) < (n : Int) := by omega
   clear hN hbl hsb s1
   generalize el ml k = p at *
   obtain ⟨p0, p1, p2⟩ := p
   simp only at g0 g1 g2 r0 r1 r2 r3 r4 hj HT1 hFj HN
   subst hj
   have HFj := hidP hFj
   clear hFj
   generalize (el l j).1 = fj at *
   by_cases hfj : fj = 1000000001
   ·have HK : Hid (endL F (ml.take (k + 1)) = acc) := by show _ = _; rw [HT1.out]; simp only [endK]; rw [HFj.out, if_pos hfj]
    subst hfj
    clear f0 f1 f2
    go_wp2
    go_roundw
    case rel => exact ⟨k + 1, q, c, _, o, acc, fd, by omega, HK, hfd, rfl, by go_num, bB.out.alloc _, hno.out, hag.out, ho8, bM.out.alloc _, b4.out.alloc _, by simp; omega, by show Below _ _ _; have h9 := hb.out; go_grown⟩
    case measure => simp [intOf]; omega
   ·have f3 := f2 hfj
    clear f2 f1
    have HW1 : Hid (Below wr.heap.size wr (wr.alloc (.cells #[.int .i64 j, .int .i64 (p1 + fj), .slice ao p2.length co] 67))) := by show Below _ _ _; go_grown
    have HWW : Hid (Below w.heap.size w (wr.alloc (.cells #[.int .i64 j, .int .i64 (p1 + fj), .slice ao p2.length co] 67))) := hb.out.trans (HW1.out.mono hb.out.size)
    have HB1 : Hid (Blk (wr.alloc (.cells #[.int .i64 j, .int .i64 (p1 + fj), .slice ao p2.length co] 67)) wr.heap.size #[.int .i64 j, .int .i64 (p1 + fj), .slice ao p2.length co] 67) := Blk.made wr _ _
    rcases acc with _ | bk
    ·have hfd0 : fd = false := by rw [← hfd.out]; rfl
     subst hfd0
     have HK : Hid (endL F (ml.take (k + 1)) = some (p1 + fj, p2)) := by show _ = _; rw [HT1.out]; simp only [endK]; rw [HFj.out, if_neg hfj]
     clear HT1 HFj
     go_wp2
     go_roundw
     case rel => exact ⟨k + 1, j, p1 + fj, _, p2, some (p1 + fj, p2), true, by omega, HK, rfl, rfl, by go_num, (((bB.out.set 0 _).set 1 _).set 2 _).alloc _, HN.out, (by intro b hb; cases hb; rfl), r4, ((((bM.out.setO _ _ (by first | (simp; done) | (simp; omega))).setO _ _ (by first | (simp; done) | (simp; omega))).setO _ _ (by first | (simp; done) | (simp; omega))).alloc _), ((((b4.out.setO _ _ (by first | (simp; done) | (simp; omega))).setO _ _ (by first | (simp; done) | (simp; omega))).setO _ _ (by first | (simp; done) | (simp; omega))).alloc _), by simp; omega, by show Below _ _ _; have h9 := hb.out; go_grown⟩
     case measure => simp [intOf]; omega
    ·have hfd0 : fd = true := by rw [← hfd.out]; rfl
     subst hfd0
     obtain rfl := hag.out bk rfl
     have HK : Hid (endL F (ml.take (k + 1)) = if betB (p1 + fj, p2) (c, o) = true then some (p1 + fj, p2) else some (c, o)) := by show _ = _; rw [HT1.out]; simp only [endK]; rw [HFj.out, if_neg hfj]
     clear HT1 HFj
     by_cases hbt : betB (p1 + fj, p2) (c, o) = true
     ·have HK2 : Hid (endL F (ml.take (k + 1)) = some (p1 + fj, p2)) := by show _ = _; rw [HK.out]; simp [hbt]
      have HBT := hidP hbt
      clear HK hbt
      go_wp2_with (first
       | (go_at_call 62; (with_reducible refine (isBetter_any _ _ (j, p1 + fj, p2) (q, c, o) _ (mkIs_of (HN.out.later HWW.out (Nat.le_refl _))) (mkIs_of (hno.out.later HWW.out (Nat.le_refl _))) (by simp only; omega)).mono ?_); rintro e w3 ⟨rfl, hb3⟩; rw [HBT.out]; have HB3 : Hid (Below wr.heap.size wr w3) := HW1.out.trans (hb3.mono HW1.out.size); have B1 := HB1.out.below hb3 HB1.out.lt; have q0 := B1.cell 0 (v := .int .i64 j) rfl; have q1 := B1.cell 1 (v := .int .i64 (p1 + fj)) rfl; have q2 := B1.cell 2 (v := .slice ao p2.length co) rfl; have bB3 := hidP (bB.out.below HB3.out (by omega)); have t0 := bB3.out.fz 0; have t1 := bB3.out.fz 1; have t2 := bB3.out.fz 2; have u0 := bB3.out.cell 0 (v := .int .i64 q) rfl; have u1 := bB3.out.cell 1 (v := .int .i64 c) rfl; have u2 := bB3.out.cell 2 (v := .slice avo o.length cvo) rfl; have zz := HB3.out.size; clear B1 hb3))
      go_roundw
      case rel => exact ⟨k + 1, j, p1 + fj, _, p2, some (p1 + fj, p2), true, by omega, HK2, rfl, rfl, by go_num, (((bB3.out.set 0 _).set 1 _).set 2 _), HN.out, (by intro b hb; cases hb; rfl), r4, (bM.out.below HB3.out (by omega)).setO _ _ (by first | (simp; done) | (simp; omega)) |>.setO _ _ (by first | (simp; done) | (simp; omega)) |>.setO _ _ (by first | (simp; done) | (simp; omega)), (b4.out.below HB3.out (by omega)).setO _ _ (by first | (simp; done) | (simp; omega)) |>.setO _ _ (by first | (simp; done) | (simp; omega)) |>.setO _ _ (by first | (simp; done) | (simp; omega)), by simp; omega, by show Below _ _ _; have h9 := hb.out.trans (HB3.out.mono hb.out.size); go_grown⟩
      case measure => simp [intOf]; omega
     ·have HK2 : Hid (endL F (ml.take (k + 1)) = some (c, o)) := by show _ = _; rw [HK.out]; simp [hbt]
      have HBT : Hid (betB (p1 + fj, p2) (c, o) = false) := by show _ = _; simpa using hbt
      clear HK hbt
      go_wp2_with (first
       | (go_at_call 62; (with_reducible refine (isBetter_any _ _ (j, p1 + fj, p2) (q, c, o) _ (mkIs_of (HN.out.later HWW.out (Nat.le_refl _))) (mkIs_of (hno.out.later HWW.out (Nat.le_refl _))) (by simp only; omega)).mono ?_); rintro e w3 ⟨rfl, hb3⟩; rw [HBT.out]; have HB3 : Hid (Below wr.heap.size wr w3) := HW1.out.trans (hb3.mono HW1.out.size); have zz := HB3.out.size; clear hb3))
      go_roundw
      case rel => exact ⟨k + 1, q, c, _, o, some (c, o), true, by omega, HK2, rfl, rfl, by go_num, bB.out.below HB3.out (by omega), hno.out, hag.out, ho8, bM.out.below HB3.out (by omega), b4.out.below HB3.out (by omega), by omega, hb.out.trans (HB3.out.mono hb.out.size)⟩
      case measure => simp [intOf]; omega
  ·have hnl : ¬ (k : Int) < (L : Int) := by omega
   have hkn : k = L := by omega
   have HR : Hid (acc = R) := by show _ = _; rw [← hacc.out, hkn, HE.out]
   have HAG : Hid (∀ b, R = some b → b = (c, o)) := by rw [← HR.out]; exact hag.out
   have hAR := HR.out
   subst hAR
   have e0 := b4.out.fz 0
   have e1 := b4.out.fz 1
   have e2 := b4.out.fz 2
   clear hacc hag HR
   go_wp2_with (first
    | (go_at_call 53; (with_reducible refine (copied_any _ (q, c, o) _ (mkIs_of (hno.out.later hb.out (Nat.le_refl _))) (by simp only; omega)).mono ?_); rintro e w3 ⟨v3, rfl, ho, hb3⟩; have HO : Hid (OwnN w3 wr.heap.size v3 o) := ho; obtain ⟨a3, c3, rfl⟩ := ho.sl; have HB3 := hidP hb3; have B4 := hidP (b4.out.below hb3 (by omega)); have t0 := B4.out.fz 0; have t1 := B4.out.fz 1; have t2 := B4.out.fz 2; have u0 := B4.out.cell 0 (v := .int .i64 0) rfl; have u1 := B4.out.cell 1 (v := .int .i64 0) rfl; have u2 := B4.out.cell 2 (v := .slice none 0 0) rfl; clear hb3 ho))
   exact bodyPost_ret (v := .tuple #[.agg #[.int .i64 q, .int .i64 c, .slice a3 o.length c3], .bool fd]) (by simp [results, Try.results43, go_sem, *]) rfl ⟨q, c, _, o, by rw [hfd.out], (((HO.out.set (by show w.heap.size + 2 < _; omega) _).set (by show w.heap.size + 2 < _; omega) _).set (by show w.heap.size + 2 < _; omega) _).nums, HAG.out, by have h9 := hb.out.trans (HB3.out.mono hb.out.size); go_grown⟩
theorem endA_bad {m : Mc} {r : Ru} (h : chkA m r ≠ 0) : endA m r = ([], 0, chkA m r) := by
 unfold chkA at *
 unfold endA
 by_cases hf : faultM m ≠ 0
 ·rw [if_pos hf] at h ⊢; rw [if_pos hf]
 ·rw [if_neg hf] at h ⊢
  rw [if_neg hf]
  by_cases hr : runB m.2.length r = true
  ·rw [if_pos hr] at h; exact absurd rfl h
  ·rw [if_neg hr, if_pos (by simpa using hr)]
theorem chk_ok {m : Mc} {r : Ru} (h : chkA m r = 0) : faultM m = 0 ∧ runB m.2.length r = true := by
 unfold chkA at h
 by_cases hf : faultM m ≠ 0
 ·rw [if_pos hf] at h; exact absurd h hf
 ·rw [if_neg hf] at h
  by_cases hr : runB m.2.length r = true
  ·exact ⟨by omega, hr⟩
  ·rw [if_neg hr] at h; cases h
theorem endA_ok {m : Mc} {r : Ru} (h : chkA m r = 0) : endA m r = match endL (finS m) r.2 with
  | none => ([], 0, 12)
  | some k => if 1000000000 < k.1 then ([], 0, 4) else (k.2, k.1, 0) := by
 obtain ⟨h1, h2⟩ := chk_ok h
 unfold endA
 rw [if_neg (by omega), if_neg (by simp [h2])]
 cases endL (finS m) r.2 <;> rfl
def EndRes (a : List Int × Int × Int) (w : World) (e : Ending) (w' : World) : Prop := ∃ vo, e = .returned (.tuple #[vo, .int .i64 a.2.1, .int .i64 a.2.2]) ∧ Nums w' vo a.1 ∧ Below w.heap.size w w'
set_option maxRecDepth 100000 in
set_option maxHeartbeats 1600000 in
theorem endP_any (v vr : Value) (m : Mc) (r : Ru) (w : World) (h : Mach w v m) (hok : okM m) (hr : RunV w vr r) (hou : okU r) :
  Calls Try.prog 19 #[v, vr] w fun e w' => EndRes (endA m r) w e w' := by
 have HM := hidP h
 have HK := hidP hok
 have HR := hidP hr
 have HO := hidP hou
 obtain ⟨vs, rfl, hS⟩ := h
 obtain ⟨a, cap, rfl⟩ := hS.sl
 obtain ⟨vm, rfl, hMk⟩ := hr
 obtain ⟨am, cm, rfl⟩ := hMk.sl
 clear hS hok hou hMk
 have hnot : ∀ (x : Bool) (w : World), (Op.unary .not (.bool x)).run Try.prog w = .ok (.bool (!x)) w := fun _ _ => rfl
 have HU : Hid (Below w.heap.size w ((w.alloc (.cells #[.int .i64 m.1, .slice a m.2.length cap] 24)).alloc (.cells #[.int .i64 r.1, .slice am r.2.length cm] 28))) := by show Below _ _ _; go_grown
 by_cases hx : chkA m r = 0
 ·have HX := hidP hx
  have HCO := hidP (chk_ok hx)
  have HE := hidP (endA_ok hx)
  clear hx
  generalize endA m r = E at *
  rcases hacc : endL (finS m) r.2 with _ | k
  ·have HACC := hidP hacc
   have hE : E = ([], 0, 12) := by rw [HE.out, hacc]
   clear HE hacc
   subst hE
   go_enter Try.func19, Try.ntmps19
   go_wp2_with (first
    | (go_at_call 35; (with_reducible refine (check_any _ _ m r _ (HM.out.later HU.out (Nat.le_refl _)) HK.out (HR.out.later HU.out (Nat.le_refl _)) HO.out 0 HX.out).mono ?_); rintro e w1 ⟨rfl, hb⟩; obtain ⟨s1, b1, b2, hb1⟩ := boxedTwo hb (by simp); have HB1 : Hid (Below w.heap.size w w1) := hb1; have c0 := b1.cell 0 (v := .int .i64 m.1) rfl; have c1 := b1.cell 1 (v := .slice a m.2.length cap) rfl; have c2 := b2.cell 0 (v := .int .i64 r.1) rfl; have c3 := b2.cell 1 (v := .slice am r.2.length cm) rfl; clear hb hb1 b1 b2)
    | (go_at_call 43; (with_reducible refine (bestEnd_any _ _ m r _ (HM.out.later HB1.out (Nat.le_refl _)) HK.out (HR.out.later HB1.out (Nat.le_refl _)) HO.out HCO.out.1 HCO.out.2).mono ?_); rintro e w2 ⟨q, c, vo, o, rfl, hn, hag, hb⟩; rw [HACC.out]; have HB2 : Hid (Below w.heap.size w w2) := HB1.out.trans (hb.mono HB1.out.size); obtain ⟨ao, co, rfl⟩ := Row.sl hn; clear hn hag hb; rw [show (none : Option Ky).isSome = false from rfl]))
   exact bodyPost_ret (v := .tuple #[.slice none 0 0, .int .i64 0, .int .i64 12]) (by simp [results, Try.results19, go_sem, *]) rfl ⟨_, rfl, .inl ⟨rfl, rfl⟩, by have h9 := HB2.out; have h8 := HB2.out.size; go_grown⟩
  ·have HACC := hidP hacc
   have hE : E = if 1000000000 < k.1 then ([], 0, 4) else (k.2, k.1, 0) := by rw [HE.out, hacc]
   clear HE hacc
   by_cases hk : 1000000000 < k.1
   ·rw [if_pos hk] at hE
    subst hE
    go_enter Try.func19, Try.ntmps19
    go_wp2_with (first
     | (go_at_call 35; (with_reducible refine (check_any _ _ m r _ (HM.out.later HU.out (Nat.le_refl _)) HK.out (HR.out.later HU.out (Nat.le_refl _)) HO.out 0 HX.out).mono ?_); rintro e w1 ⟨rfl, hb⟩; obtain ⟨s1, b1, b2, hb1⟩ := boxedTwo hb (by simp); have HB1 : Hid (Below w.heap.size w w1) := hb1; have c0 := b1.cell 0 (v := .int .i64 m.1) rfl; have c1 := b1.cell 1 (v := .slice a m.2.length cap) rfl; have c2 := b2.cell 0 (v := .int .i64 r.1) rfl; have c3 := b2.cell 1 (v := .slice am r.2.length cm) rfl; clear hb hb1 b1 b2)
     | (go_at_call 43; (with_reducible refine (bestEnd_any _ _ m r _ (HM.out.later HB1.out (Nat.le_refl _)) HK.out (HR.out.later HB1.out (Nat.le_refl _)) HO.out HCO.out.1 HCO.out.2).mono ?_); rintro e w2 ⟨q, c, vo, o, rfl, hn, hag, hb⟩; rw [HACC.out]; obtain rfl := hag k HACC.out; have HB2 : Hid (Below w.heap.size w w2) := HB1.out.trans (hb.mono HB1.out.size); have hk' : 1000000000 < c := hk; obtain ⟨ao, co, rfl⟩ := Row.sl hn; clear hn hag hb hk; rw [show (some (c, o) : Option Ky).isSome = true from rfl]))
    exact bodyPost_ret (v := .tuple #[.slice none 0 0, .int .i64 0, .int .i64 4]) (by simp [results, Try.results19, go_sem, *]) rfl ⟨_, rfl, .inl ⟨rfl, rfl⟩, by have h9 := HB2.out; have h8 := HB2.out.size; go_grown⟩
   ·rw [if_neg hk] at hE
    subst hE
    go_enter Try.func19, Try.ntmps19
    go_wp2_with (first
     | (go_at_call 35; (with_reducible refine (check_any _ _ m r _ (HM.out.later HU.out (Nat.le_refl _)) HK.out (HR.out.later HU.out (Nat.le_refl _)) HO.out 0 HX.out).mono ?_); rintro e w1 ⟨rfl, hb⟩; obtain ⟨s1, b1, b2, hb1⟩ := boxedTwo hb (by simp); have HB1 : Hid (Below w.heap.size w w1) := hb1; have c0 := b1.cell 0 (v := .int .i64 m.1) rfl; have c1 := b1.cell 1 (v := .slice a m.2.length cap) rfl; have c2 := b2.cell 0 (v := .int .i64 r.1) rfl; have c3 := b2.cell 1 (v := .slice am r.2.length cm) rfl; clear hb hb1 b1 b2)
     | (go_at_call 43; (with_reducible refine (bestEnd_any _ _ m r _ (HM.out.later HB1.out (Nat.le_refl _)) HK.out (HR.out.later HB1.out (Nat.le_refl _)) HO.out HCO.out.1 HCO.out.2).mono ?_); rintro e w2 ⟨q, c, vo, o, rfl, hn, hag, hb⟩; rw [HACC.out]; obtain rfl := hag k HACC.out; have HB2 : Hid (Below w.heap.size w w2) := HB1.out.trans (hb.mono HB1.out.size); have hk' : ¬ 1000000000 < c := (by simp only at hk; omega); obtain ⟨ao, co, rfl⟩ := Row.sl hn; have HN : Hid (Nums w2 (.slice ao o.length co) o) := hn; clear hn hag hb hk; rw [show (some (c, o) : Option Ky).isSome = true from rfl]))
    go_quiet (fail)
    go_wp2
    exact bodyPost_ret (v := .tuple #[.slice ao o.length co, .int .i64 c, .int .i64 0]) (by simp [results, Try.results19, go_sem, *]) rfl ⟨_, rfl, HN.out.later (B := w2.heap.size) (below_drewN (by go_grown) _) (Nat.le_refl _), below_drewN (by have h9 := HB2.out; have h8 := HB2.out.size; go_grown) _⟩
 ·have HX : Hid (chkA m r = chkA m r) := rfl
  have hE := endA_bad hx
  rw [hE]
  have HX := HX.out
  generalize hq : chkA m r = x at *
  have HQ := hidP hq
  clear HX hq hE
  go_enter Try.func19, Try.ntmps19
  go_wp2_with (first
   | (go_at_call 35; (with_reducible refine (check_any _ _ m r _ (HM.out.later HU.out (Nat.le_refl _)) HK.out (HR.out.later HU.out (Nat.le_refl _)) HO.out x HQ.out).mono ?_); rintro e w1 ⟨rfl, hb⟩; obtain ⟨s1, b1, b2, hb1⟩ := boxedTwo hb (by simp); have HB1 : Hid (Below w.heap.size w w1) := hb1; clear hb hb1 b1 b2))
  exact bodyPost_ret (v := .tuple #[.slice none 0 0, .int .i64 0, .int .i64 x]) (by simp [results, Try.results19, go_sem, *]) rfl ⟨_, rfl, .inl ⟨rfl, rfl⟩, HB1.out⟩
end Go.Proofs.Ytkeeiihaijhdoaa.Sm
namespace Go.Proofs.Ytkeeiihaijhdoaa.Sm
open Go.ChangeShapes Go.WideShapes Go.ChangeAt Go.RowKit
open Go.Proofs.Ytkeeiihaijhdoaa.Pl Go.Proofs.Ytkeeiihaijhdoaa.Wt
set_option linter.unusedVariables false
theorem fedT_bnd {m : Mc} (hf : faultM m = 0) (h60 : m.2.length ≤ 60) : ∀ {l : List Int} {K : Tbl} {res : Option Tbl} {B : Nat}, FedT m K l res → DomT m.2.length K → BndT 1000000000 B K → ∀ R, res = some R → DomT m.2.length R ∧ BndT 1000000000 (B + 61 * l.length) R
  | [], _, _, B, .nil _, hd, hb, R, h => by
    cases h
    exact ⟨hd, by simpa using hb⟩
  | x :: l, _, _, B, .over a1 a2 a3, hd, hb, R, h => by cases h
  | x :: l, K, _, B, .on (O := O) (K' := K') a1 a2 a3 a4, hd, hb, R, h => by
    have hDN := minS_dom hf a1
    have hBN := minS_bnd hf hb a1
    have e := a2.one (itT_clo hDN (arcs_ok hf))
    have hDK : DomT m.2.length K' := fun q y hq => (a2.1 q y hq).dom hDN (arcs_ok hf)
    have hBK : BndT 1000000000 (B + 61) K' := fun q y hq => by
      have h2 := hq
      rw [e] at h2
      have h3 := itT_bnd hf hBN _ q y h2
      have h4 : ¬ 1000000000 < y.1 := fun h => a3 ⟨q, y, hq, h⟩
      omega
    have := fedT_bnd hf h60 a4 hDK hBK R h
    refine ⟨this.1, fun q y hq => ?_⟩
    have h5 := this.2 q y hq
    simp only [List.length_cons]
    omega
theorem ordL_okU {n : Nat} {K : Tbl} {B : Nat} {z : Int} (hn : n ≤ 60) (hB : B ≤ 1000000) (hb : BndT 1000000000 B K) : okU (z, ordL n K) := by
 refine ⟨by have := ordL_len n K; simp only; omega, fun j hj => ?_⟩
 have h2 := hb _ _ (ordL_mem (el_mem hj))
 simp only at h2 ⊢
 omega
theorem fed_ok {m : Mc} {r : Ru} {x : List Int} {s : Ru} {ec : Int} (h : FedAns m r x s ec) : okU s := by
 rcases h with ⟨_, rfl, _⟩ | ⟨_, _, rfl, _⟩ | ⟨_, _, _, rfl, _⟩ | ⟨hc, ho, _, res, hres, rfl, _⟩
 ·exact ⟨by simp, by simp⟩
 ·exact ⟨by simp, by simp⟩
 ·exact ⟨by simp, by simp⟩
 ·rcases res with _ | K
  ·exact ⟨by simp, by simp⟩
  ·obtain ⟨hf, hrun⟩ := chk_ok hc
   have h60 : m.2.length ≤ 60 := by obtain ⟨z, l⟩ := m; exact (right_size hf).1
   have hT := tblT_facts hrun
   have hfd := runB_fed hrun
   have := fedT_bnd hf h60 hres hT.1 hT.2 K rfl
   exact ordL_okU h60 (B := 800 + 61 * x.length) (by omega) this.2
structure CutM (m : Mc) : Prop where
 ok : faultM m = 0
 few : m.2.length ≤ 6
 beg : 0 ≤ m.1
 low : ∀ q a, a ∈ arcS m q → a.2.2.1 ≤ 9
theorem itT_low {m : Mc} {n : Nat} {T : Tbl} {A : Int} {B : Nat} (hf : faultM m = 0) (hw : ∀ q a, a ∈ arcS m q → a.2.2.1 ≤ 9) (hb : BndT A B T) : ∀ k : Nat, BndT (A + 9 * k) (B + k) (itT m n T k)
  | 0 => fun p y hp => by have := hb p y hp; simp; omega
  | k + 1 => fun p y hp => by
    have ih := itT_low hf hw hb (n := n) k
    rcases rndF_or _ hp with h | h | ⟨q, x, a, h1, h2, h3, rfl, rfl⟩
    · cases h
    · have := ih p y h
      omega
    · have h4 := ih q x h1
      have h5 := arcs_rng hf h2
      have h6 := hw q a h2
      have h7 := goA_len x a
      have h8 : (goA x a).1 = x.1 + a.2.2.1 := rfl
      omega
def LabT (T : Tbl) : Prop := ∀ q k, T q = some k → ∀ x ∈ k.2, 1 ≤ x ∧ x ≤ 1000
theorem goA_lab {m : Mc} {q : Int} {k : Ky} {a : Ar} (hf : faultM m = 0) (ha : a ∈ arcS m q) (h : ∀ x ∈ k.2, 1 ≤ x ∧ x ≤ 1000) : ∀ x ∈ (goA k a).2, 1 ≤ x ∧ x ≤ 1000 := by
 intro x hx
 have hr := arcs_rng hf ha
 unfold goA at hx
 simp only at hx
 split at hx
 ·exact h x hx
 ·rw [List.mem_append, List.mem_singleton] at hx
  rcases hx with hx | rfl
  ·exact h x hx
  ·omega
theorem clo_lab {m : Mc} {T K : Tbl} (hf : faultM m = 0) (h : Clo m T K) (hT : LabT T) : LabT K := fun q k hk => by
 have := h.1 q k hk
 clear hk
 induction this with
 | base h => exact hT _ _ h
 | step h ha h0 ih => exact goA_lab hf ha ih
structure CutK (m : Mc) (K : Tbl) (A : Int) (B : Nat) : Prop where
 dom : DomT m.2.length K
 bnd : BndT A B K
 lab : LabT K
theorem cut_clo {m : Mc} (h : CutM m) {T K : Tbl} {A : Int} {B : Nat} (hT : CutK m T A B) (hc : Clo m T K) : CutK m K (A + 54) (B + 6) := by
 have hd := hT.dom
 refine ⟨fun q y hq => (hc.1 q y hq).dom hd (arcs_ok h.ok), fun q y hq => ?_, clo_lab h.ok hc hT.lab⟩
 have e := hc.one (itT_clo hd (arcs_ok h.ok))
 rw [e] at hq
 have h1 := itT_low h.ok h.low hT.bnd _ q y hq
 have h2 := h.few
 omega
theorem cut_step {m : Mc} (h : CutM m) {K O : Tbl} {x : Int} {A : Int} {B : Nat} (hT : CutK m K A B) (hm : MinT (StpL m K x) O) : CutK m O (A + 9) (B + 1) := by
 refine ⟨minS_dom h.ok hm, fun p y hp => ?_, fun p y hp => ?_⟩
 ·obtain ⟨q, z, a, h1, h2, h3, rfl, rfl⟩ := hm.1 p y hp
  have g2 := arcs_rng h.ok h2
  have g3 := goA_len z a
  have g4 : (goA z a).1 = z.1 + a.2.2.1 := rfl
  have g5 := hT.bnd q z h1
  have g6 := h.low q a h2
  omega
 ·obtain ⟨q, z, a, h1, h2, h3, rfl, rfl⟩ := hm.1 p y hp
  exact goA_lab h.ok h2 (hT.lab q z h1)
theorem cut_fed {m : Mc} (h : CutM m) : ∀ {l : List Int} {K : Tbl} {res : Option Tbl} {A : Int} {B : Nat}, FedT m K l res → CutK m K A B → A + 63 * l.length ≤ 1000000000 → ∃ R, res = some R ∧ CutK m R (A + 63 * l.length) (B + 7 * l.length)
  | [], K, _, A, B, .nil _, hK, hA => ⟨K, rfl, by simpa using hK⟩
  | x :: l, _, _, A, B, .over a1 a2 a3, hK, hA => by
    obtain ⟨q, k, h1, h2⟩ := a3
    have h3 := (cut_clo h (cut_step h hK a1) a2).bnd q k h1
    simp only [List.length_cons] at hA
    omega
  | x :: l, K, _, A, B, .on a1 a2 a3 a4, hK, hA => by
    have h3 := cut_clo h (cut_step h hK a1) a2
    simp only [List.length_cons] at hA
    obtain ⟨R, e, hR⟩ := cut_fed h a4 h3 (by omega)
    refine ⟨R, e, hR.dom, fun q y hq => ?_, hR.lab⟩
    have := hR.bnd q y hq
    simp only [List.length_cons]
    omega
theorem cut_run {m : Mc} {K : Tbl} {A : Int} {B : Nat} {z : Int} (hz : 0 ≤ z ∧ z ≤ 12) (hK : CutK m K A B) (hA : A ≤ 1000000000) (hB : B ≤ 800) : runB m.2.length (z, ordL m.2.length K) = true := by
 simp only [runB, Bool.and_eq_true]
 refine ⟨⟨by simp [inB]; omega, risB_ordL _ _⟩, List.all_eq_true.2 fun k hk => ?_⟩
 have h1 := ordL_mem hk
 have h2 := hK.bnd _ _ h1
 have h3 := hK.lab _ _ h1
 simp only [mkB, Bool.and_eq_true, decide_eq_true_eq]
 refine ⟨⟨by simp [inB]; omega, by omega⟩, ?_⟩
 unfold labB
 exact List.all_eq_true.2 fun x hx => by have := h3 x hx; simp [inB]; omega
theorem cut_beg {m : Mc} (h : CutM m) {a : Ru} {e : Int} (ha : BegAns m a e) : ∃ K, e = 0 ∧ a = (0, ordL m.2.length K) ∧ CutK m K 54 6 ∧ Clo m (startT m) K ∧ 0 < a.2.length := by
 have hz := start_rng h.ok
 have h0 := h.beg
 have hS : CutK m (startT m) 0 0 := ⟨startT_dom hz.2, startT_bnd m, fun q k hk x hx => by
  have := startT_bnd m q k hk
  have h2 : k.2 = [] := List.eq_nil_of_length_eq_zero (by omega)
  rw [h2] at hx; cases hx⟩
 rcases ha with ⟨h1, _⟩ | ⟨_, K, hK, h1⟩
 ·exact absurd h.ok h1
 ·have hC : CutK m K 54 6 := by have := cut_clo h hS hK; simpa using this
  rcases h1 with ⟨⟨q, k, g1, g2⟩, _⟩ | ⟨_, rfl, rfl⟩
  ·have := hC.bnd q k g1
   omega
  ·refine ⟨K, rfl, rfl, hC, hK, ?_⟩
   obtain ⟨b, hb, _⟩ := hK.2 m.1 (0, []) (.base (by unfold startT; rw [if_pos ⟨h0, rfl⟩]))
   have := (mem_ordL hC.dom).2 hb
   exact List.length_pos_of_mem this
theorem cut_begok {m : Mc} (h : CutM m) {a : Ru} {e : Int} (ha : BegAns m a e) : okU a := by
 obtain ⟨K, rfl, rfl, hK, _, h0⟩ := cut_beg h ha
 have := h.few
 exact ordL_okU (by omega) (B := 6) (by omega) fun q y hq => by have := hK.bnd q y hq; omega
theorem cut_ans {m : Mc} (h : CutM m) {K : Tbl} {z : Int} {x : List Int} {A : Int} {B : Nat} {s : Ru} {f : Int} (hK : CutK m K A B) (hz : 0 ≤ z) (hx : z + x.length ≤ 12) (hl : labB x = true) (hA : A + 63 * x.length ≤ 1000000000) (hB : B ≤ 800) (hs : FedAns m (z, ordL m.2.length K) x s f) :
  ∃ R, f = 0 ∧ s = (z + x.length, ordL m.2.length R) ∧ FedT m K x (some R) ∧ CutK m R (A + 63 * x.length) (B + 7 * x.length) := by
 have hc : chkA m (z, ordL m.2.length K) = 0 := by
  unfold chkA
  rw [if_neg (by simp [h.ok]), if_pos (cut_run ⟨hz, by omega⟩ hK (by omega) hB)]
 rcases hs with ⟨h1, _⟩ | ⟨_, h1, _⟩ | ⟨_, _, h1, _⟩ | ⟨_, _, _, res, hres, rfl, rfl⟩
 ·exact absurd hc h1
 ·exact absurd h1 (by simp only; omega)
 ·rw [hl] at h1; cases h1
 ·simp only [tblT_ordL hK.dom] at hres
  obtain ⟨R, rfl, hR⟩ := cut_fed h hres hK hA
  exact ⟨R, rfl, rfl, hres, hR⟩
end Go.Proofs.Ytkeeiihaijhdoaa.Sm
namespace Go.Proofs.Ytkeeiihaijhdoaa.Pl
theorem pigeon : ∀ (n : Nat) (l : List Nat), l.Nodup → (∀ x ∈ l, x < n) → l.length ≤ n := by
  intro n
  induction n with
  | zero =>
    intro l _ h
    cases l with
    | nil => simp
    | cons a l => exact absurd (h a (by simp)) (Nat.not_lt_zero _)
  | succ n ih =>
    intro l hn h
    have h1 := ih (l.erase n) (hn.erase n) (fun x hx => by
      have h2 := h x (List.mem_of_mem_erase hx)
      have h3 : x ≠ n := fun e => by subst e; exact hn.not_mem_erase hx
      omega)
    rw [List.length_erase] at h1
    split at h1 <;> omega
end Go.Proofs.Ytkeeiihaijhdoaa.Pl
